/- Moments in memory; what the program asks of them. -/
import Derived.Test.YtknbchheoloaoaaGreatSoY
namespace Go.Proofs.YtknbchheoloaoaaGreat
set_option linter.unusedVariables false
open Go.ChangeShapes Go.WideShapes Go.ChangeAt Go.RowKit

def MV (ms : List Int) : List Value := ms.map (Value.int .i16)
structure MomW (w : World) (g : Nat) (ms : List Int) : Prop where
 row : w.rangeAt g 0 (MV ms)
 room : w.there g 0 22
 len : ms.length = 22
theorem MomW.at {w : World} {g : Nat} {ms : List Int} (h : MomW w g ms) {j : Nat} {z : Int} (hj : ms[j]? = some z) : w.cell? ⟨g, j, none⟩ = some (.int .i16 z) := by
 have := h.row j (.int .i16 z) (by simp [MV, hj])
 simpa using this
theorem MomW.fr {w : World} {g : Nat} {ms : List Int} (h : MomW w g ms) {j : Nat} (hj : j < 22) : w.frozen? ⟨g, j, none⟩ = false := by
 have := (h.room j hj).2
 simpa using this
theorem MomW.on {w w' : World} {g : Nat} {ms : List Int} (h : MomW w g ms) (hg : g < w.heap.size) (hb : Below w.heap.size w w') : MomW w' g ms :=
 ⟨fun j v hj => (hb.cell (p := ⟨g, 0 + j, none⟩) hg).trans (h.row j v hj), fun j hj => by rw [hb.cell (p := ⟨g, 0 + j, none⟩) hg, hb.frozen (p := ⟨g, 0 + j, none⟩) hg]; exact h.room j hj, h.len⟩
theorem MomW.set {w : World} {g : Nat} {ms : List Int} (h : MomW w g ms) (j : Nat) (hj : j < 22) (z : Int) : MomW (w.setCell ⟨g, j, none⟩ (.int .i16 z)) g (ms.set j z) := by
 have hl := h.len
 refine ⟨fun i v hv => ?_, fun i hi => ?_, by simpa using hl⟩
 ·by_cases e : i = j
  ·subst e
   have e2 : v = .int .i16 z := by simp [MV, hl, hj] at hv; exact hv.symm
   subst e2
   have := World.cell?_setCells_in g [.int .i16 z] i w (fun q hq => by
    have hq : q = 0 := by simpa using hq
    subst hq
    have := (h.room i hj).1
    simpa using this) 0 (by simp)
   rw [Nat.zero_add]
   exact this
  ·have e' : ¬ j = i := fun q => e q.symm
   have hv' : (MV ms)[i]? = some v := by simp [MV, e'] at hv ⊢; exact hv
   have := World.cell?_setCells_out g [.int .i16 z] j w ⟨g, 0 + i, none⟩ (fun _ _ => by show 0 + i < j ∨ j + 1 ≤ 0 + i; omega)
   exact Eq.trans this (h.row i v hv')
 ·have h1 := h.room i hi
  have hf : (w.setCell ⟨g, j, none⟩ (.int .i16 z)).frozen? ⟨g, 0 + i, none⟩ = w.frozen? ⟨g, 0 + i, none⟩ := World.frozen?_setCells g [.int .i16 z] j w _
  refine ⟨?_, hf.trans h1.2⟩
  by_cases e : i = j
  ·subst e
   have := World.cell?_setCells_in g [.int .i16 z] i w (fun q hq => by
    have hq : q = 0 := by simpa using hq
    subst hq
    have := h1.1
    simpa using this) 0 (by simp)
   have h2 : (w.setCell ⟨g, i, none⟩ (.int .i16 z)).cell? ⟨g, 0 + i, none⟩ = some (.int .i16 z) := by rw [Nat.zero_add]; exact this
   rw [h2]; rfl
  ·have := World.cell?_setCells_out g [.int .i16 z] j w ⟨g, 0 + i, none⟩ (fun _ _ => by show 0 + i < j ∨ j + 1 ≤ 0 + i; omega)
   have h2 : (w.setCell ⟨g, j, none⟩ (.int .i16 z)).cell? ⟨g, 0 + i, none⟩ = w.cell? ⟨g, 0 + i, none⟩ := this
   rw [h2]; exact h1.1
def Nxt (ms : List Int) (n : Nat) (pc un : Nat → Nat) : Prop := ∀ t, t < n → ms[t]? = some ((pc t : Nat) : Int) ∧ ms[3 + t]? = some ((un t : Nat) : Int)
theorem Nxt.high {ms : List Int} {n : Nat} {pc un : Nat → Nat} (h : Nxt ms n pc un) (hn : n ≤ 3) (j : Nat) (hj : 6 ≤ j) (z : Int) : Nxt (ms.set j z) n pc un := fun t ht => by
 rw [List.getElem?_set_ne (by omega), List.getElem?_set_ne (by omega)]
 exact h t ht

set_option maxRecDepth 1000000 in
set_option maxHeartbeats 8000000 in
theorem seen_calls (g gm t v p : Nat) (z : Int) (ms : List Int) (w : World) (ht3 : t < 3) (hp4 : p ≤ 4) (hv : v < 4) (hm : MomW w gm ms) (h1 : ms[t]? = some (p : Int)) (h2 : ms[3 + t]? = some (p : Int)) (hz : ms[18 + v]? = some z) :
  Calls Tryz.prog 74 #[.pointer (some ⟨g, 0, none⟩), .pointer (some ⟨gm, 0, none⟩), .int .i64 (t : Int), .int .i64 (v : Int)] w fun e w' => e = .returned (.int .i16 z) ∧ w' = w := by
 have hnx : Hid (Calls Tryz.prog 51 #[.pointer (some ⟨gm, 0, none⟩), .int .i64 (t : Int)] w fun e w' => e = .returned (.int .i64 (p : Int)) ∧ w' = w) := next_calls gm t p w ht3 (by omega) (hm.at h1)
 have hus : Hid (Calls Tryz.prog 86 #[.pointer (some ⟨gm, 0, none⟩), .int .i64 (t : Int)] w fun e w' => e = .returned (.int .i64 (p : Int)) ∧ w' = w) := unsent_calls gm t p w ht3 (by omega) (hm.at h2)
 have hcz := hm.at hz
 have hv' : (18 + (v : Int)) < 22 := by omega
 have hp' : (p : Int) ≤ 4 := by omega
 have hp0 : (0 : Int) ≤ p := by omega
 clear h1 h2 hm hz
 go_enter Tryz.func74, Tryz.ntmps74
 go_wp2_with (first | (go_at_call 51; refine hnx.out.mono ?_; rintro e w2 ⟨rfl, rfl⟩))
 refine wp_loop_rounds 1 ?_
 rw [rounds_succ]
 go_wp2_with (first | (go_at_call 86; refine hus.out.mono ?_; rintro e w2 ⟨rfl, rfl⟩))
 go_ret
 exact ⟨rfl, rfl⟩
def lrV (f : Nat → Bool) (v : Nat → Int) : Nat → Int
 | 0 => 0
 | k + 1 => if f k = true then v k else lrV f v k
def isR (x : LitL) (t k : Nat) : Bool := match actAt x t k with
 | some a => a.kind == 1
 | none => false

set_option maxRecDepth 1000000 in
set_option maxHeartbeats 8000000 in
theorem lastRead_calls (x : LitL) (g gm t p : Nat) (ms : List Int) (ta : Option Addr) (tc : Nat) (w : World) (lo hi : Nat) (hh : hi ≤ w.heap.size) (hx : ListAt ThrR 1 true lo hi w (.slice ta x.thr.length tc) x.thr) (hg : g < w.heap.size) (hc : w.cell? ⟨g, 3, none⟩ = some (.slice ta x.thr.length tc)) (ht3 : t < 3) (ht : t < x.thr.length) (hp4 : p ≤ 4) (hpl : p ≤ (x.thr[t]).length) (hm : MomW w gm ms) (h1 : ms[t]? = some (p : Int)) :
  Calls Tryz.prog 76 #[.pointer (some ⟨g, 0, none⟩), .pointer (some ⟨gm, 0, none⟩), .int .i64 (t : Int)] w fun e w' => e = .returned (.int .i16 (lrV (isR x t) (fun k => (ms[6 + t * 4 + k]?).getD 0) p)) ∧ w' = w := by
 obtain ⟨R, hR⟩ : ∃ R, R = lrV (isR x t) (fun k => (ms[6 + t * 4 + k]?).getD 0) p := ⟨_, rfl⟩
 rw [← hR]
 have hR0 : Hid (R = lrV (isR x t) (fun k => (ms[6 + t * 4 + k]?).getD 0) p) := hR
 clear hR
 have hnx : Hid (Calls Tryz.prog 51 #[.pointer (some ⟨gm, 0, none⟩), .int .i64 (t : Int)] w fun e w' => e = .returned (.int .i64 (p : Int)) ∧ w' = w) := next_calls gm t p w ht3 (by omega) (hm.at h1)
 have hact : Hid (∀ k, k < p → ∃ a, actAt x t k = some a) := fun k hk => by
  refine ⟨(x.thr[t])[k], ?_⟩
  simp [actAt, ht, show k < (x.thr[t]).length by omega]
 have hxH : Hid (ListAt ThrR 1 true lo hi w (.slice ta x.thr.length tc) x.thr) := hx
 have hmH : Hid (MomW w gm ms) := hm
 have hp' : (p : Int) ≤ 4 := by omega
 have hp0 : (0 : Int) ≤ p := by omega
 have hW : Hid (w = w) := rfl
 clear h1 hm hx
 go_enter Tryz.func76, Tryz.ntmps76
 go_wp2_with (first | (go_at_call 51; refine hnx.out.mono ?_; rintro e w2 ⟨rfl, rfl⟩))
 rename World => w0
 go_loopw [7] (fun kv wr => wr = w0 ∧ ∃ j : Nat, j ≤ p ∧ kv = .int .i64 ((j : Int) - 1) ∧ Hid (R = lrV (isR x t) (fun k => (ms[6 + t * 4 + k]?).getD 0) j)) (fun kv _ => (intOf kv + 1).toNat)
 case atStart => exact ⟨rfl, p, Nat.le_refl _, by go_num, hR0⟩
 case round =>
  clear hR0
  obtain ⟨rfl, j, hj, rfl, hz0⟩ := hrel
  by_cases hj0 : j = 0
  ·subst hj0
   go_wp2
   go_ret
   exact ⟨by rw [hz0.out]; rfl, rfl⟩
  ·obtain ⟨k, rfl⟩ : ∃ k, j = k + 1 := ⟨j - 1, by omega⟩
   obtain ⟨a, haa⟩ := hact.out k (by omega)
   obtain ⟨b1, o1, len, uc, b2, o2, rfl, ht', hk, hkc, hb1, hA⟩ := actAt_of hxH.out hh haa
   obtain ⟨c1, c2, c3, c4⟩ := hA _ (Below.refl _ _)
   obtain ⟨z, hz⟩ : ∃ z, ms[6 + t * 4 + k]? = some z := ⟨_, List.getElem?_eq_getElem (by have := hmH.out.len; omega)⟩
   have hcz := hmH.out.at hz
   have hvl : Hid (Calls Tryz.prog 75 #[.pointer (some ⟨gm, 0, none⟩), .int .i64 (t : Int), .int .i64 (k : Int)] wr fun e w' => e = .returned (.pointer (some ⟨gm, 6 + t * 4 + k, none⟩)) ∧ w' = wr) := value_calls gm t k wr ht3 (by omega)
   have hk' : (k : Int) < len := by omega
   have ht'' : (t : Int) < x.thr.length := by omega
   have hk4 : (k : Int) ≤ 4 := by omega
   have hst : Hid (R = if (a.kind == 1) = true then z else lrV (isR x t) (fun k => (ms[6 + t * 4 + k]?).getD 0) k) := by
    show _ = _
    rw [hz0.out, lrV]
    simp only [isR, haa, hz, Option.getD_some]
   clear hA haa hz hz0
   by_cases hkd : a.kind = 1
   ·rw [hkd] at c2 hst
    go_wp2_with (first | (go_at_call 75; refine hvl.out.mono ?_; rintro e w2 ⟨rfl, rfl⟩))
    go_ret
    exact ⟨by rw [hst.out]; rfl, rfl⟩
   ·have hkb : (a.kind == 1) = false := by simpa using hkd
    go_wp2
    go_roundw
    case rel => exact ⟨trivial, k, by omega, by go_num, by have h9 := hst.out; rw [hkb] at h9; show _ = _; simpa using h9⟩
    case measure => simp [intOf]

set_option maxRecDepth 1000000 in
set_option maxHeartbeats 8000000 in
theorem passNone_calls (g gm t p : Nat) (ms : List Int) (w : World) (hgm : gm < w.heap.size) (ht3 : t < 3) (hp4 : p ≤ 4) (hm : MomW w gm ms) (h1 : ms[t]? = some (p : Int)) (h2 : ms[3 + t]? = some (p : Int)) :
  Calls Tryz.prog 79 #[.pointer (some ⟨g, 0, none⟩), .pointer (some ⟨gm, 0, none⟩), .int .i64 (t : Int)] w fun e w' => e = .returned (.tuple #[]) ∧ Below w.heap.size w w' := by
 have hhu : Hid (∀ W, Below w.heap.size w W → Calls Tryz.prog 72 #[.pointer (some ⟨gm, 0, none⟩), .int .i64 (t : Int)] W fun e w' => e = .returned (.bool false) ∧ w' = W) := fun W hB => by
  have := hasUnsent_calls gm t p p W ht3 (by omega) (by omega) ((hm.on hgm hB).at h1) ((hm.on hgm hB).at h2)
  simpa using this
 clear hm h1 h2
 go_enter Tryz.func79, Tryz.ntmps79
 go_wp2_with fail
 refine wp_loop_rounds 1 ?_
 rw [rounds_succ]
 go_wp2_with fail
 refine wp_region_own (by kernel_rfl) (fun vs => { tmps := #[.pointer (some ⟨g, 0, none⟩), .pointer (some ⟨gm, 0, none⟩), .int .i64 (t : Int), undef, undef, undef, vs 0, vs 1, vs 2, vs 3, vs 4, vs 5, vs 6, vs 7, vs 8, vs 9, vs 10, vs 11, vs 12, vs 13, vs 14, vs 15, vs 16, vs 17, vs 18, vs 19, undef, undef, undef, undef, undef, undef, undef, undef, undef], defers := [] }) (lv [.pointer (some ⟨gm, 0, none⟩), .int .i64 (t : Int), .bool false, .bool false, undef, undef, undef, undef, undef, undef, undef, undef, undef, undef, undef, undef, undef, undef, undef, .bool false]) (fun i => undef) rfl (fun _ _ _ _ _ _ _ _ h => h) (allAt_all ⟨?_, ?_, ?_, ?_, ?_, ?_, ?_, ?_, ?_, ?_, ?_, ?_, ?_, ?_, ?_, ?_, ?_, ?_, ?_, ?_, trivial⟩) ?_ (regForward_done (by kernel_rfl))
 case refine_1 =>
  intro vs lo hi W hB hv
  clear hv
  go_wp2
  exact ⟨.pointer (some ⟨gm, 0, none⟩), by rfl, Below.refl _ _, rfl⟩
 case refine_2 =>
  intro vs lo hi W hB hv
  clear hv
  go_wp2
  exact ⟨.int .i64 (t : Int), by rfl, Below.refl _ _, rfl⟩
 case refine_3 =>
  intro vs lo hi W hB hv
  have e0 : vs 0 = .pointer (some ⟨gm, 0, none⟩) := ((hv ⟨0, .data⟩ (by simp) rfl).1)
  have e1 : vs 1 = .int .i64 (t : Int) := ((hv ⟨1, .data⟩ (by simp) rfl).1)
  have hcl : Hid (Calls Tryz.prog 72 #[.pointer (some ⟨gm, 0, none⟩), .int .i64 (t : Int)] W fun e w' => e = .returned (.bool false) ∧ w' = W) := hhu.out W hB
  clear hv
  simp only [e0, e1]
  go_wp2_with (go_at_call 72; refine (show Calls _ _ _ _ _ from hcl.out).mono ?_; rintro e w2 ⟨rfl, rfl⟩)
  exact ⟨.bool false, by first | (rw [← e0, ← e1]; rfl) | (simp [upd, e0, e1]), Below.refl _ _, rfl⟩
 case refine_4 =>
  intro vs lo hi W hB hv
  have e2 : vs 2 = .bool false := ((hv ⟨2, .data⟩ (by simp) rfl).1)
  clear hv
  simp only [e2]
  go_wp2
  exact ⟨.bool false, by first | (rw [← e2]; rfl) | (simp [upd, e2]), Below.refl _ _, rfl⟩
 case refine_5 =>
  intro vs lo hi W hB hv
  have e3 : vs 3 = .bool false := ((hv ⟨3, .guard⟩ (by simp) rfl).1)
  clear hv
  simp only [e3]
  go_wp2
  exact ⟨undef, by rw [← e3]; rfl, Below.refl _ _, rfl⟩
 case refine_6 =>
  intro vs lo hi W hB hv
  have e3 : vs 3 = .bool false := ((hv ⟨3, .guard⟩ (by simp) rfl).1)
  clear hv
  simp only [e3]
  go_wp2
  exact ⟨undef, by rw [← e3]; rfl, Below.refl _ _, rfl⟩
 case refine_7 =>
  intro vs lo hi W hB hv
  have e3 : vs 3 = .bool false := ((hv ⟨3, .guard⟩ (by simp) rfl).1)
  clear hv
  simp only [e3]
  go_wp2
  exact ⟨undef, by rw [← e3]; rfl, Below.refl _ _, rfl⟩
 case refine_8 =>
  intro vs lo hi W hB hv
  have e3 : vs 3 = .bool false := ((hv ⟨3, .guard⟩ (by simp) rfl).1)
  clear hv
  simp only [e3]
  go_wp2
  exact ⟨undef, by rw [← e3]; rfl, Below.refl _ _, rfl⟩
 case refine_9 =>
  intro vs lo hi W hB hv
  have e3 : vs 3 = .bool false := ((hv ⟨3, .guard⟩ (by simp) rfl).1)
  clear hv
  simp only [e3]
  go_wp2
  exact ⟨undef, by rw [← e3]; rfl, Below.refl _ _, rfl⟩
 case refine_10 =>
  intro vs lo hi W hB hv
  have e3 : vs 3 = .bool false := ((hv ⟨3, .guard⟩ (by simp) rfl).1)
  clear hv
  simp only [e3]
  go_wp2
  exact ⟨undef, by rw [← e3]; rfl, Below.refl _ _, rfl⟩
 case refine_11 =>
  intro vs lo hi W hB hv
  have e3 : vs 3 = .bool false := ((hv ⟨3, .guard⟩ (by simp) rfl).1)
  clear hv
  simp only [e3]
  go_wp2
  exact ⟨undef, by rw [← e3]; rfl, Below.refl _ _, rfl⟩
 case refine_12 =>
  intro vs lo hi W hB hv
  have e3 : vs 3 = .bool false := ((hv ⟨3, .guard⟩ (by simp) rfl).1)
  clear hv
  simp only [e3]
  go_wp2
  exact ⟨undef, by rw [← e3]; rfl, Below.refl _ _, rfl⟩
 case refine_13 =>
  intro vs lo hi W hB hv
  have e3 : vs 3 = .bool false := ((hv ⟨3, .guard⟩ (by simp) rfl).1)
  clear hv
  simp only [e3]
  go_wp2
  exact ⟨undef, by rw [← e3]; rfl, Below.refl _ _, rfl⟩
 case refine_14 =>
  intro vs lo hi W hB hv
  have e3 : vs 3 = .bool false := ((hv ⟨3, .guard⟩ (by simp) rfl).1)
  clear hv
  simp only [e3]
  go_wp2
  exact ⟨undef, by rw [← e3]; rfl, Below.refl _ _, rfl⟩
 case refine_15 =>
  intro vs lo hi W hB hv
  have e3 : vs 3 = .bool false := ((hv ⟨3, .chain⟩ (by simp) rfl).1)
  clear hv
  simp only [e3]
  go_wp2
  exact ⟨undef, by rw [← e3]; rfl, Below.refl _ _, rfl⟩
 case refine_16 =>
  intro vs lo hi W hB hv
  have e3 : vs 3 = .bool false := ((hv ⟨3, .guard⟩ (by simp) rfl).1)
  clear hv
  simp only [e3]
  go_wp2
  exact ⟨undef, by rw [← e3]; rfl, Below.refl _ _, rfl⟩
 case refine_17 =>
  intro vs lo hi W hB hv
  have e3 : vs 3 = .bool false := ((hv ⟨3, .guard⟩ (by simp) rfl).1)
  clear hv
  simp only [e3]
  go_wp2
  exact ⟨undef, by rw [← e3]; rfl, Below.refl _ _, rfl⟩
 case refine_18 =>
  intro vs lo hi W hB hv
  have e3 : vs 3 = .bool false := ((hv ⟨3, .guard⟩ (by simp) rfl).1)
  clear hv
  simp only [e3]
  go_wp2
  exact ⟨undef, by rw [← e3]; rfl, Below.refl _ _, rfl⟩
 case refine_19 =>
  intro vs lo hi W hB hv
  have e3 : vs 3 = .bool false := ((hv ⟨3, .guard⟩ (by simp) rfl).1)
  clear hv
  simp only [e3]
  go_wp2
  exact ⟨undef, by rw [← e3]; rfl, Below.refl _ _, rfl⟩
 case refine_20 =>
  intro vs lo hi W hB hv
  have e3 : vs 3 = .bool false := ((hv ⟨3, .data⟩ (by simp) rfl).1)
  have e18 : vs 18 = undef := ((hv ⟨18, .data⟩ (by simp) rfl).1)
  clear hv
  simp only [e3, e18]
  go_wp2
  exact ⟨.bool false, by first | (rw [← e3, ← e18]; rfl) | (simp [upd, e3, e18]), Below.refl _ _, rfl⟩
 case refine_21 =>
  intro vs lo hi W hB hv _ _
  have e0 : vs 0 = .pointer (some ⟨gm, 0, none⟩) := (hv 0 (by simp))
  have e1 : vs 1 = .int .i64 (t : Int) := (hv 1 (by simp))
  have e2 : vs 2 = .bool false := (hv 2 (by simp))
  have e3 : vs 3 = .bool false := (hv 3 (by simp))
  have e19 : vs 19 = .bool false := (hv 19 (by simp))
  clear hv
  simp only [e0, e1, e2, e3, e19]
  have hBH : Hid (Below w.heap.size w W) := hB
  clear hB
  go_wp2
  refine bodyPost_end (results_none rfl _ _ _) rfl ?_
  exact ⟨rfl, hBH.out⟩

set_option maxRecDepth 1000000 in
set_option maxHeartbeats 8000000 in
theorem passOne_calls (x : LitL) (a : ActL) (g gm t p : Nat) (ms : List Int) (ta : Option Addr) (tc : Nat) (w : World) (lo hi : Nat) (hh : hi ≤ w.heap.size) (hx : ListAt ThrR 1 true lo hi w (.slice ta x.thr.length tc) x.thr) (hg : g < w.heap.size) (hc : w.cell? ⟨g, 3, none⟩ = some (.slice ta x.thr.length tc)) (hgm : gm < w.heap.size) (ht3 : t < 3) (hp4 : p ≤ 3) (ha : actAt x t p = some a) (hnw : isW a = false) (hm : MomW w gm ms) (h1 : ms[t]? = some ((p : Int) + 1)) (h2 : ms[3 + t]? = some (p : Int)) :
  Calls Tryz.prog 79 #[.pointer (some ⟨g, 0, none⟩), .pointer (some ⟨gm, 0, none⟩), .int .i64 (t : Int)] w fun e w' => e = .returned (.tuple #[]) ∧ MomW w' gm (ms.set (3 + t) ((p : Int) + 1)) ∧ w.grownBy w' (some gm) := by
 obtain ⟨b1, o1, len, uc, b2, o2, rfl, ht, hk, hkc, hb1, hA⟩ := actAt_of hx hh ha
 have hhu : Hid (∀ W, Below w.heap.size w W → Calls Tryz.prog 72 #[.pointer (some ⟨gm, 0, none⟩), .int .i64 (t : Int)] W fun e w' => e = .returned (.bool true) ∧ w' = W) := fun W hB => by
  have := hasUnsent_calls gm t ((p : Int) + 1) p W ht3 (by omega) (by omega) ((hm.on hgm hB).at h1) ((hm.on hgm hB).at h2)
  rw [show decide ((p : Int) < (p : Int) + 1) = true by simp; omega] at this
  exact this
 have huu : Hid (∀ W, Below w.heap.size w W → Calls Tryz.prog 86 #[.pointer (some ⟨gm, 0, none⟩), .int .i64 (t : Int)] W fun e w' => e = .returned (.int .i64 (p : Int)) ∧ w' = W) := fun W hB => unsent_calls gm t p W ht3 (by omega) ((hm.on hgm hB).at h2)
 have hcell : Hid (∀ W, Below w.heap.size w W → W.cell? ⟨g, 3, none⟩ = some (.slice (some ⟨b1, o1, none⟩) x.thr.length tc) ∧ W.cell? ⟨b1, o1 + t, none⟩ = some (.slice (some ⟨b2, o2, none⟩) len uc) ∧ W.cell? ⟨b2, o2 + p * 3, none⟩ = some (.int .i64 a.kind) ∧ W.cell? ⟨b2, o2 + p * 3 + 1, none⟩ = some (.int .i64 a.var) ∧ W.cell? ⟨b2, o2 + p * 3 + 2, none⟩ = some (.int .i64 a.n)) := fun W hW => by
  obtain ⟨c1, c2, c3, c4⟩ := hA W hW
  exact ⟨(hW.cell (p := ⟨g, 3, none⟩) hg).trans hc, by simpa using c1, by simpa using c2, by simpa using c3, by simpa using c4⟩
 have hlen := hm.len
 have p1 : (t : Int) < x.thr.length := by omega
 have p2 : (p : Int) < len := by omega
 have p3 : (3 + (t : Int)) < 22 := by omega
 have p4 : (p : Int) ≤ 3 := by omega
 have hw16 : IntKind.i16.wrap ((p : Int) + 1) = (p : Int) + 1 := by simp only [IntKind.wrap, IntKind.bits, IntKind.signed]; simp; split <;> omega
 clear hA hx ha hc
 go_enter Tryz.func79, Tryz.ntmps79
 go_wp2_with fail
 refine wp_loop_rounds 2 ?_
 rw [rounds_succ]
 go_wp2_with fail
 refine wp_region_own (by kernel_rfl) (fun vs => { tmps := #[.pointer (some ⟨g, 0, none⟩), .pointer (some ⟨gm, 0, none⟩), .int .i64 (t : Int), undef, undef, undef, vs 0, vs 1, vs 2, vs 3, vs 4, vs 5, vs 6, vs 7, vs 8, vs 9, vs 10, vs 11, vs 12, vs 13, vs 14, vs 15, vs 16, vs 17, vs 18, vs 19, undef, undef, undef, undef, undef, undef, undef, undef, undef], defers := [] }) (lv [.pointer (some ⟨gm, 0, none⟩), .int .i64 (t : Int), .bool true, .bool true, .pointer (some ⟨g, 0, none⟩), .pointer (some ⟨g, 0, none⟩), .pointer (some ⟨g, 0, none⟩), .pointer (some ⟨g, 3, none⟩), .slice (some ⟨b1, o1, none⟩) x.thr.length tc, .int .i64 (t : Int), .pointer (some ⟨b1, o1 + t, none⟩), .slice (some ⟨b2, o2, none⟩) len uc, .pointer (some ⟨gm, 0, none⟩), .int .i64 (t : Int), .int .i64 (p : Int), .pointer (some ⟨b2, o2 + p * 3, none⟩), .agg #[.int .i64 a.kind, .int .i64 a.var, .int .i64 a.n], .bool false, .bool true, .bool true]) (fun i => undef) rfl (fun _ _ _ _ _ _ _ _ h => h) (allAt_all ⟨?_, ?_, ?_, ?_, ?_, ?_, ?_, ?_, ?_, ?_, ?_, ?_, ?_, ?_, ?_, ?_, ?_, ?_, ?_, ?_, trivial⟩) ?_ (regForward_done (by kernel_rfl))
 case refine_1 =>
  intro vs lo hi W hB hv
  clear hv
  go_wp2
  exact ⟨.pointer (some ⟨gm, 0, none⟩), by rfl, Below.refl _ _, rfl⟩
 case refine_2 =>
  intro vs lo hi W hB hv
  clear hv
  go_wp2
  exact ⟨.int .i64 (t : Int), by rfl, Below.refl _ _, rfl⟩
 case refine_3 =>
  intro vs lo hi W hB hv
  have e0 : vs 0 = .pointer (some ⟨gm, 0, none⟩) := ((hv ⟨0, .data⟩ (by simp) rfl).1)
  have e1 : vs 1 = .int .i64 (t : Int) := ((hv ⟨1, .data⟩ (by simp) rfl).1)
  have hcl : Hid (Calls Tryz.prog 72 #[.pointer (some ⟨gm, 0, none⟩), .int .i64 (t : Int)] W fun e w' => e = .returned (.bool true) ∧ w' = W) := hhu.out W hB
  clear hv
  simp only [e0, e1]
  go_wp2_with (go_at_call 72; refine (show Calls _ _ _ _ _ from hcl.out).mono ?_; rintro e w2 ⟨rfl, rfl⟩)
  exact ⟨.bool true, by first | (rw [← e0, ← e1]; rfl) | (simp [upd, e0, e1]), Below.refl _ _, rfl⟩
 case refine_4 =>
  intro vs lo hi W hB hv
  have e2 : vs 2 = .bool true := ((hv ⟨2, .data⟩ (by simp) rfl).1)
  clear hv
  simp only [e2]
  go_wp2
  exact ⟨.bool true, by first | (rw [← e2]; rfl) | (simp [upd, e2]), Below.refl _ _, rfl⟩
 case refine_5 =>
  intro vs lo hi W hB hv
  have e3 : vs 3 = .bool true := ((hv ⟨3, .guard⟩ (by simp) rfl).1)
  clear hv
  simp only [e3]
  go_wp2
  exact ⟨.pointer (some ⟨g, 0, none⟩), by first | (rw [← e3]; rfl) | (simp [upd, e3]), Below.refl _ _, rfl⟩
 case refine_6 =>
  intro vs lo hi W hB hv
  have e4 : vs 4 = .pointer (some ⟨g, 0, none⟩) := ((hv ⟨4, .data⟩ (by simp) rfl).1)
  have e3 : vs 3 = .bool true := ((hv ⟨3, .guard⟩ (by simp) rfl).1)
  clear hv
  simp only [e4, e3]
  go_wp2
  exact ⟨.pointer (some ⟨g, 0, none⟩), by first | (rw [← e4, ← e3]; rfl) | (simp [upd, e4, e3]), Below.refl _ _, rfl⟩
 case refine_7 =>
  intro vs lo hi W hB hv
  have e5 : vs 5 = .pointer (some ⟨g, 0, none⟩) := ((hv ⟨5, .data⟩ (by simp) rfl).1)
  have e3 : vs 3 = .bool true := ((hv ⟨3, .guard⟩ (by simp) rfl).1)
  clear hv
  simp only [e5, e3]
  go_wp2
  exact ⟨.pointer (some ⟨g, 0, none⟩), by first | (rw [← e5, ← e3]; rfl) | (simp [upd, e5, e3]), Below.refl _ _, rfl⟩
 case refine_8 =>
  intro vs lo hi W hB hv
  have e6 : vs 6 = .pointer (some ⟨g, 0, none⟩) := ((hv ⟨6, .data⟩ (by simp) rfl).1)
  have e3 : vs 3 = .bool true := ((hv ⟨3, .guard⟩ (by simp) rfl).1)
  clear hv
  simp only [e6, e3]
  go_wp2
  exact ⟨.pointer (some ⟨g, 3, none⟩), by first | (rw [← e6, ← e3]; rfl) | (simp [upd, e6, e3]), Below.refl _ _, rfl⟩
 case refine_9 =>
  intro vs lo hi W hB hv
  have e7 : vs 7 = .pointer (some ⟨g, 3, none⟩) := ((hv ⟨7, .data⟩ (by simp) rfl).1)
  have e3 : vs 3 = .bool true := ((hv ⟨3, .guard⟩ (by simp) rfl).1)
  obtain ⟨c3, c1, a1, a2, a3⟩ := hcell.out W hB
  clear hv
  simp only [e7, e3]
  go_wp2
  exact ⟨.slice (some ⟨b1, o1, none⟩) x.thr.length tc, by first | (rw [← e7, ← e3]; rfl) | (simp [upd, e7, e3]), Below.refl _ _, rfl⟩
 case refine_10 =>
  intro vs lo hi W hB hv
  have e3 : vs 3 = .bool true := ((hv ⟨3, .guard⟩ (by simp) rfl).1)
  clear hv
  simp only [e3]
  go_wp2
  exact ⟨.int .i64 (t : Int), by first | (rw [← e3]; rfl) | (simp [upd, e3]), Below.refl _ _, rfl⟩
 case refine_11 =>
  intro vs lo hi W hB hv
  have e8 : vs 8 = .slice (some ⟨b1, o1, none⟩) x.thr.length tc := ((hv ⟨8, .data⟩ (by simp) rfl).1)
  have e9 : vs 9 = .int .i64 (t : Int) := ((hv ⟨9, .data⟩ (by simp) rfl).1)
  have e3 : vs 3 = .bool true := ((hv ⟨3, .guard⟩ (by simp) rfl).1)
  clear hv
  simp only [e8, e9, e3]
  go_wp2
  exact ⟨.pointer (some ⟨b1, o1 + t, none⟩), by first | (rw [← e8, ← e9, ← e3]; rfl) | (simp [upd, e8, e9, e3]), Below.refl _ _, rfl⟩
 case refine_12 =>
  intro vs lo hi W hB hv
  have e10 : vs 10 = .pointer (some ⟨b1, o1 + t, none⟩) := ((hv ⟨10, .data⟩ (by simp) rfl).1)
  have e3 : vs 3 = .bool true := ((hv ⟨3, .guard⟩ (by simp) rfl).1)
  obtain ⟨c3, c1, a1, a2, a3⟩ := hcell.out W hB
  clear hv
  simp only [e10, e3]
  go_wp2
  exact ⟨.slice (some ⟨b2, o2, none⟩) len uc, by first | (rw [← e10, ← e3]; rfl) | (simp [upd, e10, e3]), Below.refl _ _, rfl⟩
 case refine_13 =>
  intro vs lo hi W hB hv
  have e3 : vs 3 = .bool true := ((hv ⟨3, .guard⟩ (by simp) rfl).1)
  clear hv
  simp only [e3]
  go_wp2
  exact ⟨.pointer (some ⟨gm, 0, none⟩), by first | (rw [← e3]; rfl) | (simp [upd, e3]), Below.refl _ _, rfl⟩
 case refine_14 =>
  intro vs lo hi W hB hv
  have e3 : vs 3 = .bool true := ((hv ⟨3, .guard⟩ (by simp) rfl).1)
  clear hv
  simp only [e3]
  go_wp2
  exact ⟨.int .i64 (t : Int), by first | (rw [← e3]; rfl) | (simp [upd, e3]), Below.refl _ _, rfl⟩
 case refine_15 =>
  intro vs lo hi W hB hv
  have e12 : vs 12 = .pointer (some ⟨gm, 0, none⟩) := ((hv ⟨12, .data⟩ (by simp) rfl).1)
  have e13 : vs 13 = .int .i64 (t : Int) := ((hv ⟨13, .data⟩ (by simp) rfl).1)
  have e3 : vs 3 = .bool true := ((hv ⟨3, .chain⟩ (by simp) rfl).1)
  have hcl : Hid (Calls Tryz.prog 86 #[.pointer (some ⟨gm, 0, none⟩), .int .i64 (t : Int)] W fun e w' => e = .returned (.int .i64 (p : Int)) ∧ w' = W) := huu.out W hB
  clear hv
  simp only [e12, e13, e3]
  go_wp2_with (go_at_call 86; refine (show Calls _ _ _ _ _ from hcl.out).mono ?_; rintro e w2 ⟨rfl, rfl⟩)
  exact ⟨.int .i64 (p : Int), by first | (rw [← e12, ← e13, ← e3]; rfl) | (simp [upd, e12, e13, e3]), Below.refl _ _, rfl⟩
 case refine_16 =>
  intro vs lo hi W hB hv
  have e11 : vs 11 = .slice (some ⟨b2, o2, none⟩) len uc := ((hv ⟨11, .data⟩ (by simp) rfl).1)
  have e14 : vs 14 = .int .i64 (p : Int) := ((hv ⟨14, .data⟩ (by simp) rfl).1)
  have e3 : vs 3 = .bool true := ((hv ⟨3, .guard⟩ (by simp) rfl).1)
  clear hv
  simp only [e11, e14, e3]
  go_wp2
  exact ⟨.pointer (some ⟨b2, o2 + p * 3, none⟩), by first | (rw [← e11, ← e14, ← e3]; rfl) | (simp [upd, e11, e14, e3]), Below.refl _ _, rfl⟩
 case refine_17 =>
  intro vs lo hi W hB hv
  have e15 : vs 15 = .pointer (some ⟨b2, o2 + p * 3, none⟩) := ((hv ⟨15, .data⟩ (by simp) rfl).1)
  have e3 : vs 3 = .bool true := ((hv ⟨3, .guard⟩ (by simp) rfl).1)
  obtain ⟨c3, c1, a1, a2, a3⟩ := hcell.out W hB
  clear hv
  simp only [e15, e3]
  go_wp2
  exact ⟨.agg #[.int .i64 a.kind, .int .i64 a.var, .int .i64 a.n], by first | (rw [← e15, ← e3]; rfl) | (simp [upd, e15, e3]), Below.refl _ _, rfl⟩
 case refine_18 =>
  intro vs lo hi W hB hv
  have e16 : vs 16 = .agg #[.int .i64 a.kind, .int .i64 a.var, .int .i64 a.n] := ((hv ⟨16, .data⟩ (by simp) rfl).1)
  have e3 : vs 3 = .bool true := ((hv ⟨3, .guard⟩ (by simp) rfl).1)
  have hcl : Hid (Calls Tryz.prog 77 #[.agg #[.int .i64 a.kind, .int .i64 a.var, .int .i64 a.n]] W fun e w' => e = .returned (.bool (isW a)) ∧ Below W.heap.size W w') := isWrite_calls a W
  clear hv
  simp only [e16, e3]
  go_wp2_with (go_at_call 77; refine (show Calls _ _ _ _ _ from hcl.out).mono ?_; rintro e w2 ⟨rfl, hb2⟩; rw [hnw])
  exact ⟨.bool false, by first | (rw [← e16, ← e3]; rfl) | (simp [upd, e16, e3]), hb2, rfl⟩
 case refine_19 =>
  intro vs lo hi W hB hv
  have e17 : vs 17 = .bool false := ((hv ⟨17, .data⟩ (by simp) rfl).1)
  have e3 : vs 3 = .bool true := ((hv ⟨3, .guard⟩ (by simp) rfl).1)
  clear hv
  simp only [e17, e3]
  go_wp2
  exact ⟨.bool true, by first | (rw [← e17, ← e3]; rfl) | (simp [upd, e17, e3]), Below.refl _ _, rfl⟩
 case refine_20 =>
  intro vs lo hi W hB hv
  have e3 : vs 3 = .bool true := ((hv ⟨3, .data⟩ (by simp) rfl).1)
  have e18 : vs 18 = .bool true := ((hv ⟨18, .data⟩ (by simp) rfl).1)
  clear hv
  simp only [e3, e18]
  go_wp2
  exact ⟨.bool true, by first | (rw [← e3, ← e18]; rfl) | (simp [upd, e3, e18]), Below.refl _ _, rfl⟩
 case refine_21 =>
  intro vs lo hi W hB hv _ _
  have e0 : vs 0 = .pointer (some ⟨gm, 0, none⟩) := (hv 0 (by simp))
  have e1 : vs 1 = .int .i64 (t : Int) := (hv 1 (by simp))
  have e2 : vs 2 = .bool true := (hv 2 (by simp))
  have e3 : vs 3 = .bool true := (hv 3 (by simp))
  have e4 : vs 4 = .pointer (some ⟨g, 0, none⟩) := (hv 4 (by simp))
  have e5 : vs 5 = .pointer (some ⟨g, 0, none⟩) := (hv 5 (by simp))
  have e6 : vs 6 = .pointer (some ⟨g, 0, none⟩) := (hv 6 (by simp))
  have e7 : vs 7 = .pointer (some ⟨g, 3, none⟩) := (hv 7 (by simp))
  have e8 : vs 8 = .slice (some ⟨b1, o1, none⟩) x.thr.length tc := (hv 8 (by simp))
  have e9 : vs 9 = .int .i64 (t : Int) := (hv 9 (by simp))
  have e10 : vs 10 = .pointer (some ⟨b1, o1 + t, none⟩) := (hv 10 (by simp))
  have e11 : vs 11 = .slice (some ⟨b2, o2, none⟩) len uc := (hv 11 (by simp))
  have e12 : vs 12 = .pointer (some ⟨gm, 0, none⟩) := (hv 12 (by simp))
  have e13 : vs 13 = .int .i64 (t : Int) := (hv 13 (by simp))
  have e14 : vs 14 = .int .i64 (p : Int) := (hv 14 (by simp))
  have e15 : vs 15 = .pointer (some ⟨b2, o2 + p * 3, none⟩) := (hv 15 (by simp))
  have e16 : vs 16 = .agg #[.int .i64 a.kind, .int .i64 a.var, .int .i64 a.n] := (hv 16 (by simp))
  have e17 : vs 17 = .bool false := (hv 17 (by simp))
  have e18 : vs 18 = .bool true := (hv 18 (by simp))
  have e19 : vs 19 = .bool true := (hv 19 (by simp))
  clear hv
  simp only [e0, e1, e2, e3, e4, e5, e6, e7, e8, e9, e10, e11, e12, e13, e14, e15, e16, e17, e18, e19]
  have hbw : Hid (∀ V, Below W.heap.size W V → w.grownBy V (some gm)) := fun V hV => ⟨hV.os.trans hB.os, hV.tape.trans hB.tape, hV.output.trans hB.output, Nat.le_trans hB.size hV.size, fun k hk _ => (hV.block k (by have := hB.size; omega)).trans (hB.block k hk)⟩
  have hm0 : Hid (MomW W gm ms) := hm.on hgm hB
  have hg0 : Hid (gm < W.heap.size) := by show _ < _; have := hB.size; omega
  clear hB e0 e1 e2 e3 e4 e5 e6 e7 e8 e9 e10 e11 e12 e13 e14 e15 e16 e17 e18 e19
  obtain ⟨W0, hW0⟩ : ∃ W0, W0 = W := ⟨_, rfl⟩
  rw [← hW0] at hbw hm0 hg0 ⊢
  clear hW0
  have hmc : Hid (∀ W, Below W0.heap.size W0 W → W.cell? ⟨gm, 3 + t, none⟩ = some (.int .i16 (p : Int)) ∧ W.frozen? ⟨gm, 3 + t, none⟩ = false) := fun W hB => ⟨(hm0.out.on hg0.out hB).at h2, (hm0.out.on hg0.out hB).fr (by omega)⟩
  go_wp2_with fail
  refine wp_region_chain (by kernel_rfl) (fun vs => { tmps := #[.pointer (some ⟨g, 0, none⟩), .pointer (some ⟨gm, 0, none⟩), .int .i64 (t : Int), undef, undef, undef, .pointer (some ⟨gm, 0, none⟩), .int .i64 (t : Int), .bool true, .bool true, .pointer (some ⟨g, 0, none⟩), .pointer (some ⟨g, 0, none⟩), .pointer (some ⟨g, 0, none⟩), .pointer (some ⟨g, 3, none⟩), .slice (some ⟨b1, o1, none⟩) x.thr.length tc, .int .i64 (t : Int), .pointer (some ⟨b1, o1 + t, none⟩), .slice (some ⟨b2, o2, none⟩) len uc, .pointer (some ⟨gm, 0, none⟩), .int .i64 (t : Int), .int .i64 (p : Int), .pointer (some ⟨b2, o2 + p * 3, none⟩), .agg #[.int .i64 a.kind, .int .i64 a.var, .int .i64 a.n], .bool false, .bool true, .bool true, vs 0, vs 1, vs 2, vs 3, vs 4, vs 5, vs 6, vs 7, vs 8], defers := [] }) [] (lv1 [.pointer (some ⟨gm, 0, none⟩), .int .i64 (t : Int), .int .i64 (3 + (t : Int)), .pointer (some ⟨gm, 0, none⟩), .pointer (some ⟨gm, 3 + t, none⟩), .int .i16 (p : Int), .int .i16 ((p : Int) + 1), .pointer (some ⟨gm, 0, none⟩), .pointer (some ⟨gm, 3 + t, none⟩)]) (fun _ _ W => Below W0.heap.size W0 W) (fun i => undef) rfl (by kernel_rfl) ?_ (fun _ _ _ _ _ _ h => h) (allAt_all ⟨?_, ?_, ?_, ?_, ?_, ?_, ?_, ?_, ?_, ?_, trivial⟩) ?_ ?_
  case refine_1 => exact Below.drew (Below.refl _ _)
  case refine_2 =>
   intro _ _ k vs W hB hv
   clear hv
   go_wp2
   exact PurePost.mk' (.pointer (some ⟨gm, 0, none⟩)) (by rfl) rfl
  case refine_3 =>
   intro _ _ k vs W hB hv
   clear hv
   go_wp2
   exact PurePost.mk' (.int .i64 (t : Int)) (by rfl) rfl
  case refine_4 =>
   intro _ _ k vs W hB hv
   have e1 : vs 1 = .int .i64 (t : Int) := hv ⟨1, .data⟩ (by simp) rfl (by decide)
   clear hv
   simp only [e1]
   go_wp2
   exact PurePost.mk' (.int .i64 (3 + (t : Int))) (by first | (rw [← e1]; rfl) | (simp [upd, e1])) rfl
  case refine_5 =>
   intro _ _ k vs W hB hv
   have e0 : vs 0 = .pointer (some ⟨gm, 0, none⟩) := hv ⟨0, .data⟩ (by simp) rfl (by decide)
   clear hv
   simp only [e0]
   go_wp2
   exact PurePost.mk' (.pointer (some ⟨gm, 0, none⟩)) (by first | (rw [← e0]; rfl) | (simp [upd, e0])) rfl
  case refine_6 =>
   intro _ _ k vs W hB hv
   have e3 : vs 3 = .pointer (some ⟨gm, 0, none⟩) := hv ⟨3, .data⟩ (by simp) rfl (by decide)
   have e2 : vs 2 = .int .i64 (3 + (t : Int)) := hv ⟨2, .data⟩ (by simp) rfl (by decide)
   clear hv
   simp only [e3, e2]
   go_wp2
   exact PurePost.mk' (.pointer (some ⟨gm, 3 + t, none⟩)) (by first | (rw [← e3, ← e2]; rfl) | (simp [upd, e3, e2])) rfl
  case refine_7 =>
   intro _ _ k vs W hB hv
   have e4 : vs 4 = .pointer (some ⟨gm, 3 + t, none⟩) := hv ⟨4, .data⟩ (by simp) rfl (by decide)
   obtain ⟨u1, u2⟩ := hmc.out W hB
   clear hv
   simp only [e4]
   go_wp2
   exact PurePost.mk' (.int .i16 (p : Int)) (by first | (rw [← e4]; rfl) | (simp [upd, e4])) rfl
  case refine_8 =>
   intro _ _ k vs W hB hv
   have e5 : vs 5 = .int .i16 (p : Int) := hv ⟨5, .data⟩ (by simp) rfl (by decide)
   clear hv
   simp only [e5]
   go_wp2
   exact PurePost.mk' (.int .i16 ((p : Int) + 1)) (by first | (rw [← e5]; rfl) | (simp [upd, e5])) rfl
  case refine_9 =>
   intro _ _ k vs W hB hv
   have e0 : vs 0 = .pointer (some ⟨gm, 0, none⟩) := hv ⟨0, .data⟩ (by simp) rfl (by decide)
   clear hv
   simp only [e0]
   go_wp2
   exact PurePost.mk' (.pointer (some ⟨gm, 0, none⟩)) (by first | (rw [← e0]; rfl) | (simp [upd, e0])) rfl
  case refine_10 =>
   intro _ _ k vs W hB hv
   have e7 : vs 7 = .pointer (some ⟨gm, 0, none⟩) := hv ⟨7, .data⟩ (by simp) rfl (by decide)
   have e2 : vs 2 = .int .i64 (3 + (t : Int)) := hv ⟨2, .data⟩ (by simp) rfl (by decide)
   clear hv
   simp only [e7, e2]
   go_wp2
   exact PurePost.mk' (.pointer (some ⟨gm, 3 + t, none⟩)) (by first | (rw [← e7, ← e2]; rfl) | (simp [upd, e7, e2])) rfl
  case refine_11 => exact fun _ h => absurd h (by simp)
  case refine_12 =>
   intro k q o hq
   simp at hq
  case refine_13 =>
   intro o ho vs W hB hv
   obtain rfl := Option.some.inj ho
   have e0 : vs 0 = .pointer (some ⟨gm, 0, none⟩) := hv 0 (by simp) (by simp)
   have e1 : vs 1 = .int .i64 (t : Int) := hv 1 (by simp) (by simp)
   have e2 : vs 2 = .int .i64 (3 + (t : Int)) := hv 2 (by simp) (by simp)
   have e3 : vs 3 = .pointer (some ⟨gm, 0, none⟩) := hv 3 (by simp) (by simp)
   have e4 : vs 4 = .pointer (some ⟨gm, 3 + t, none⟩) := hv 4 (by simp) (by simp)
   have e5 : vs 5 = .int .i16 (p : Int) := hv 5 (by simp) (by simp)
   have e6 : vs 6 = .int .i16 ((p : Int) + 1) := hv 6 (by simp) (by simp)
   have e7 : vs 7 = .pointer (some ⟨gm, 0, none⟩) := hv 7 (by simp) (by simp)
   have e8 : vs 8 = .pointer (some ⟨gm, 3 + t, none⟩) := hv 8 (by simp) (by simp)
   obtain ⟨u1, u2⟩ := hmc.out W hB
   clear hv
   simp only [e0, e1, e2, e3, e4, e5, e6, e7, e8]
   clear e0 e1 e2 e3 e4 e5 e6 e7 e8
   go_wp2_with fail
   have hm3 : Hid (MomW (W.setCell ⟨gm, 3 + t, none⟩ (.int .i16 ((p : Int) + 1))) gm (ms.set (3 + t) ((p : Int) + 1))) := (hm0.out.on hg0.out hB).set (3 + t) (by omega) _
   have hb3 : Hid (w.grownBy (W.setCell ⟨gm, 3 + t, none⟩ (.int .i16 ((p : Int) + 1))) (some gm)) := (hbw.out W hB).trans ⟨rfl, rfl, rfl, by simp [World.setCell], fun k hk hne => Below.heap_setCell _ _ _ _ (fun e => hne (by rw [e]))⟩
   have hg3 : Hid (gm < (W.setCell ⟨gm, 3 + t, none⟩ (.int .i16 ((p : Int) + 1))).heap.size) := by show gm < _; rw [show (W.setCell ⟨gm, 3 + t, none⟩ (.int .i16 ((p : Int) + 1))).heap.size = W.heap.size by simp [World.setCell]]; have := hB.size; have := hg0.out; omega
   clear hB u1 u2
   generalize W.setCell ⟨gm, 3 + t, none⟩ (.int .i16 ((p : Int) + 1)) = W3 at *
   have hh2 : Hid (∀ W, Below W3.heap.size W3 W → Calls Tryz.prog 72 #[.pointer (some ⟨gm, 0, none⟩), .int .i64 (t : Int)] W fun e w' => e = .returned (.bool false) ∧ w' = W) := fun W hB => by
    have := hasUnsent_calls gm t ((p : Int) + 1) ((p : Int) + 1) W ht3 (by omega) (by omega) ((hm3.out.on hg3.out hB).at (by rw [List.getElem?_set_ne (by omega)]; exact h1)) ((hm3.out.on hg3.out hB).at (by rw [List.getElem?_set_self (by rw [hlen]; omega)]))
    simpa using this
   skip
   skip
   rw [rounds_succ]
   go_wp2_with fail
   refine wp_region_own (by kernel_rfl) (fun vs => { tmps := #[.pointer (some ⟨g, 0, none⟩), .pointer (some ⟨gm, 0, none⟩), .int .i64 (t : Int), undef, undef, undef, vs 0, vs 1, vs 2, vs 3, vs 4, vs 5, vs 6, vs 7, vs 8, vs 9, vs 10, vs 11, vs 12, vs 13, vs 14, vs 15, vs 16, vs 17, vs 18, vs 19, .pointer (some ⟨gm, 0, none⟩), .int .i64 (t : Int), .int .i64 (3 + (t : Int)), .pointer (some ⟨gm, 0, none⟩), .pointer (some ⟨gm, 3 + t, none⟩), .int .i16 (p : Int), .int .i16 ((p : Int) + 1), .pointer (some ⟨gm, 0, none⟩), .pointer (some ⟨gm, 3 + t, none⟩)], defers := [] }) (lv [.pointer (some ⟨gm, 0, none⟩), .int .i64 (t : Int), .bool false, .bool false, undef, undef, undef, undef, undef, undef, undef, undef, undef, undef, undef, undef, undef, undef, undef, .bool false]) (fun i => if i = 0 then .pointer (some ⟨gm, 0, none⟩) else if i = 1 then .int .i64 (t : Int) else if i = 2 then .bool true else if i = 3 then .bool true else if i = 4 then .pointer (some ⟨g, 0, none⟩) else if i = 5 then .pointer (some ⟨g, 0, none⟩) else if i = 6 then .pointer (some ⟨g, 0, none⟩) else if i = 7 then .pointer (some ⟨g, 3, none⟩) else if i = 8 then .slice (some ⟨b1, o1, none⟩) x.thr.length tc else if i = 9 then .int .i64 (t : Int) else if i = 10 then .pointer (some ⟨b1, o1 + t, none⟩) else if i = 11 then .slice (some ⟨b2, o2, none⟩) len uc else if i = 12 then .pointer (some ⟨gm, 0, none⟩) else if i = 13 then .int .i64 (t : Int) else if i = 14 then .int .i64 (p : Int) else if i = 15 then .pointer (some ⟨b2, o2 + p * 3, none⟩) else if i = 16 then .agg #[.int .i64 a.kind, .int .i64 a.var, .int .i64 a.n] else if i = 17 then .bool false else if i = 18 then .bool true else if i = 19 then .bool true else undef) rfl (fun _ _ _ _ _ _ _ _ h => h) (allAt_all ⟨?_, ?_, ?_, ?_, ?_, ?_, ?_, ?_, ?_, ?_, ?_, ?_, ?_, ?_, ?_, ?_, ?_, ?_, ?_, ?_, trivial⟩) ?_ (regForward_done (by kernel_rfl))
   case refine_1 =>
    intro vs lo hi W hB hv
    clear hv
    go_wp2
    exact ⟨.pointer (some ⟨gm, 0, none⟩), by rfl, Below.refl _ _, rfl⟩
   case refine_2 =>
    intro vs lo hi W hB hv
    clear hv
    go_wp2
    exact ⟨.int .i64 (t : Int), by rfl, Below.refl _ _, rfl⟩
   case refine_3 =>
    intro vs lo hi W hB hv
    have e0 : vs 0 = .pointer (some ⟨gm, 0, none⟩) := ((hv ⟨0, .data⟩ (by simp) rfl).1)
    have e1 : vs 1 = .int .i64 (t : Int) := ((hv ⟨1, .data⟩ (by simp) rfl).1)
    have hcl : Hid (Calls Tryz.prog 72 #[.pointer (some ⟨gm, 0, none⟩), .int .i64 (t : Int)] W fun e w' => e = .returned (.bool false) ∧ w' = W) := hh2.out W hB
    clear hv
    simp only [e0, e1]
    go_wp2_with (go_at_call 72; refine (show Calls _ _ _ _ _ from hcl.out).mono ?_; rintro e w2 ⟨rfl, rfl⟩)
    exact ⟨.bool false, by first | (rw [← e0, ← e1]; rfl) | (simp [upd, e0, e1]), Below.refl _ _, rfl⟩
   case refine_4 =>
    intro vs lo hi W hB hv
    have e2 : vs 2 = .bool false := ((hv ⟨2, .data⟩ (by simp) rfl).1)
    clear hv
    simp only [e2]
    go_wp2
    exact ⟨.bool false, by first | (rw [← e2]; rfl) | (simp [upd, e2]), Below.refl _ _, rfl⟩
   case refine_5 =>
    intro vs lo hi W hB hv
    have e3 : vs 3 = .bool false := ((hv ⟨3, .guard⟩ (by simp) rfl).1)
    clear hv
    simp only [e3]
    go_wp2
    exact ⟨undef, by rw [← e3]; rfl, Below.refl _ _, rfl⟩
   case refine_6 =>
    intro vs lo hi W hB hv
    have e3 : vs 3 = .bool false := ((hv ⟨3, .guard⟩ (by simp) rfl).1)
    clear hv
    simp only [e3]
    go_wp2
    exact ⟨undef, by rw [← e3]; rfl, Below.refl _ _, rfl⟩
   case refine_7 =>
    intro vs lo hi W hB hv
    have e3 : vs 3 = .bool false := ((hv ⟨3, .guard⟩ (by simp) rfl).1)
    clear hv
    simp only [e3]
    go_wp2
    exact ⟨undef, by rw [← e3]; rfl, Below.refl _ _, rfl⟩
   case refine_8 =>
    intro vs lo hi W hB hv
    have e3 : vs 3 = .bool false := ((hv ⟨3, .guard⟩ (by simp) rfl).1)
    clear hv
    simp only [e3]
    go_wp2
    exact ⟨undef, by rw [← e3]; rfl, Below.refl _ _, rfl⟩
   case refine_9 =>
    intro vs lo hi W hB hv
    have e3 : vs 3 = .bool false := ((hv ⟨3, .guard⟩ (by simp) rfl).1)
    clear hv
    simp only [e3]
    go_wp2
    exact ⟨undef, by rw [← e3]; rfl, Below.refl _ _, rfl⟩
   case refine_10 =>
    intro vs lo hi W hB hv
    have e3 : vs 3 = .bool false := ((hv ⟨3, .guard⟩ (by simp) rfl).1)
    clear hv
    simp only [e3]
    go_wp2
    exact ⟨undef, by rw [← e3]; rfl, Below.refl _ _, rfl⟩
   case refine_11 =>
    intro vs lo hi W hB hv
    have e3 : vs 3 = .bool false := ((hv ⟨3, .guard⟩ (by simp) rfl).1)
    clear hv
    simp only [e3]
    go_wp2
    exact ⟨undef, by rw [← e3]; rfl, Below.refl _ _, rfl⟩
   case refine_12 =>
    intro vs lo hi W hB hv
    have e3 : vs 3 = .bool false := ((hv ⟨3, .guard⟩ (by simp) rfl).1)
    clear hv
    simp only [e3]
    go_wp2
    exact ⟨undef, by rw [← e3]; rfl, Below.refl _ _, rfl⟩
   case refine_13 =>
    intro vs lo hi W hB hv
    have e3 : vs 3 = .bool false := ((hv ⟨3, .guard⟩ (by simp) rfl).1)
    clear hv
    simp only [e3]
    go_wp2
    exact ⟨undef, by rw [← e3]; rfl, Below.refl _ _, rfl⟩
   case refine_14 =>
    intro vs lo hi W hB hv
    have e3 : vs 3 = .bool false := ((hv ⟨3, .guard⟩ (by simp) rfl).1)
    clear hv
    simp only [e3]
    go_wp2
    exact ⟨undef, by rw [← e3]; rfl, Below.refl _ _, rfl⟩
   case refine_15 =>
    intro vs lo hi W hB hv
    have e3 : vs 3 = .bool false := ((hv ⟨3, .chain⟩ (by simp) rfl).1)
    clear hv
    simp only [e3]
    go_wp2
    exact ⟨undef, by rw [← e3]; rfl, Below.refl _ _, rfl⟩
   case refine_16 =>
    intro vs lo hi W hB hv
    have e3 : vs 3 = .bool false := ((hv ⟨3, .guard⟩ (by simp) rfl).1)
    clear hv
    simp only [e3]
    go_wp2
    exact ⟨undef, by rw [← e3]; rfl, Below.refl _ _, rfl⟩
   case refine_17 =>
    intro vs lo hi W hB hv
    have e3 : vs 3 = .bool false := ((hv ⟨3, .guard⟩ (by simp) rfl).1)
    clear hv
    simp only [e3]
    go_wp2
    exact ⟨undef, by rw [← e3]; rfl, Below.refl _ _, rfl⟩
   case refine_18 =>
    intro vs lo hi W hB hv
    have e3 : vs 3 = .bool false := ((hv ⟨3, .guard⟩ (by simp) rfl).1)
    clear hv
    simp only [e3]
    go_wp2
    exact ⟨undef, by rw [← e3]; rfl, Below.refl _ _, rfl⟩
   case refine_19 =>
    intro vs lo hi W hB hv
    have e3 : vs 3 = .bool false := ((hv ⟨3, .guard⟩ (by simp) rfl).1)
    clear hv
    simp only [e3]
    go_wp2
    exact ⟨undef, by rw [← e3]; rfl, Below.refl _ _, rfl⟩
   case refine_20 =>
    intro vs lo hi W hB hv
    have e3 : vs 3 = .bool false := ((hv ⟨3, .data⟩ (by simp) rfl).1)
    have e18 : vs 18 = undef := ((hv ⟨18, .data⟩ (by simp) rfl).1)
    clear hv
    simp only [e3, e18]
    go_wp2
    exact ⟨.bool false, by first | (rw [← e3, ← e18]; rfl) | (simp [upd, e3, e18]), Below.refl _ _, rfl⟩
   case refine_21 =>
    intro vs lo hi W hB hv _ _
    have e0 : vs 0 = .pointer (some ⟨gm, 0, none⟩) := (hv 0 (by simp))
    have e1 : vs 1 = .int .i64 (t : Int) := (hv 1 (by simp))
    have e2 : vs 2 = .bool false := (hv 2 (by simp))
    have e3 : vs 3 = .bool false := (hv 3 (by simp))
    have e19 : vs 19 = .bool false := (hv 19 (by simp))
    clear hv
    simp only [e0, e1, e2, e3, e19]
    have hfinH : Hid (MomW W gm (ms.set (3 + t) ((p : Int) + 1)) ∧ w.grownBy W (some gm)) := ⟨hm3.out.on hg3.out hB, hb3.out.trans ⟨hB.os, hB.tape, hB.output, hB.size, fun k hk _ => hB.block k hk⟩⟩
    clear hB
    go_wp2
    refine bodyPost_end (results_none rfl _ _ _) rfl ?_
    exact ⟨rfl, hfinH.out⟩
end Go.Proofs.YtknbchheoloaoaaGreat
