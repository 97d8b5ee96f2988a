/- Acts, rows of acts, litmus tests: copies, comparisons, sizes. -/
import Derived.Test.YtknbchheoloaoaaGreatLs
namespace Go.Proofs.YtknbchheoloaoaaGreat
set_option linter.unusedVariables false
open Go.ChangeShapes Go.WideShapes Go.ChangeAt Go.RowKit

structure ActL where
 kind : Int
 var : Int
 n : Int
structure LitL where
 vars : Int
 vol : Int
 locks : Int
 thr : List (List ActL)
def ActR : Rd ActL := fun _ _ _ _ row x => row = [.int .i64 x.kind, .int .i64 x.var, .int .i64 x.n]
theorem ActR.stable : Stable ActR := fun _ _ _ _ _ _ _ _ _ h _ _ _ => h
abbrev ThrR : Rd (List ActL) := RowR ActR 3
theorem ThrR.stable : Stable ThrR := RowR.stable ActR.stable 3
def LitR : Rd LitL := fun own lo hi w row x => ∃ v, row = [.int .i64 x.vars, .int .i64 x.vol, .int .i64 x.locks, v] ∧ ListAt ThrR 1 own lo hi w v x.thr
theorem LitR.stable : Stable LitR := fun _ _ _ _ _ _ _ _ _ ⟨v, hv, hx⟩ h1 h2 hs => ⟨v, hv, hx.kept ThrR.stable h1 h2 hs⟩
def LitL.small (x : LitL) : Prop := x.thr.length ≤ 1048576 ∧ ∀ y ∈ x.thr, y.length ≤ 1048576

theorem elemT60 : ∃ i z, Tryz.prog.info? 60 = some i ∧ i.zero = some z ∧ i.size = 3 ∧ i.bytes = 24 := by
 obtain ⟨i0, hi0⟩ : ∃ i, Tryz.prog.info? 60 = some i := Option.isSome_iff_exists.1 (by kernel_rfl)
 obtain ⟨z, hz⟩ : ∃ z, (Tryz.prog.info? 60).bind (·.zero) = some z := Option.isSome_iff_exists.1 (by kernel_rfl)
 refine ⟨i0, z, hi0, ?_, ?_, ?_⟩
 ·rw [hi0] at hz; exact hz
 ·have : (Tryz.prog.info? 60).map (·.size) = some 3 := by kernel_rfl
  rw [hi0] at this; exact Option.some.inj this
 ·have : (Tryz.prog.info? 60).map (·.bytes) = some 24 := by kernel_rfl
  rw [hi0] at this; exact Option.some.inj this

theorem elemT61 : ∃ i z, Tryz.prog.info? 61 = some i ∧ i.zero = some z ∧ i.size = 1 ∧ i.bytes = 24 := by
 obtain ⟨i0, hi0⟩ : ∃ i, Tryz.prog.info? 61 = some i := Option.isSome_iff_exists.1 (by kernel_rfl)
 obtain ⟨z, hz⟩ : ∃ z, (Tryz.prog.info? 61).bind (·.zero) = some z := Option.isSome_iff_exists.1 (by kernel_rfl)
 refine ⟨i0, z, hi0, ?_, ?_, ?_⟩
 ·rw [hi0] at hz; exact hz
 ·have : (Tryz.prog.info? 61).map (·.size) = some 1 := by kernel_rfl
  rw [hi0] at this; exact Option.some.inj this
 ·have : (Tryz.prog.info? 61).map (·.bytes) = some 24 := by kernel_rfl
  rw [hi0] at this; exact Option.some.inj this

set_option maxRecDepth 1000000 in
set_option maxHeartbeats 1000000 in
theorem toAct_calls (x : ActL) (base : Nat) : ElemTo 66 3 ActR base x := by
 intro w row hbase hrx hrl
 have hrow : row = [.int .i64 x.kind, .int .i64 x.var, .int .i64 x.n] := hrx
 subst hrow
 clear hrx hrl hbase
 go_enter Tryz.func66, Tryz.ntmps66
 go_wp2
 refine bodyPost_ret (v := .agg #[.int .i64 x.kind, .int .i64 x.var, .int .i64 x.n]) (results_cell_mid rfl _ _ (w.heap.size + 1) [.int .i64 x.kind, .int .i64 x.var, .int .i64 x.n] _ rfl (rangeAt_heap (heap_mid3 w _ _ _)) Tryz.underlying60 rfl (by kernel_rfl)) rfl ⟨[.int .i64 x.kind, .int .i64 x.var, .int .i64 x.n], rfl, rfl, rfl, rfl, below_3 w _ _ _⟩

set_option maxRecDepth 1000000 in
set_option maxHeartbeats 1000000 in
theorem toActS_calls (v : Value) (xs : List ActL) (w : World) (base : Nat) (hbase : base ≤ w.heap.size) (ht : ListAt ActR 3 false 0 base w v xs) (hn : xs.length ≤ 1048576) (hel : ∀ x ∈ xs, ElemTo 66 3 ActR base x) :
  Calls Tryz.prog 46 #[v] w fun e w' => ∃ u, e = .returned u ∧ ListAt ActR 3 true w.heap.size w'.heap.size w' u xs ∧ Below w.heap.size w w' := by
 obtain ⟨i0, z0, hi0, hz0, hz1, hz2⟩ := elemT60
 have hld : (Tryz.prog.info? 113).map (·.size) = some 3 := by kernel_rfl
 have hst : (Tryz.prog.info? 60).map (·.size) = some 3 := by kernel_rfl
 have hldH : Hid ((Tryz.prog.info? 113).map (·.size) = some 3) := hld
 have hstH : Hid ((Tryz.prog.info? 60).map (·.size) = some 3) := hst
 clear hld hst
 obtain ⟨a, c, rfl⟩ := ht.form
 have helH : Hid (∀ x ∈ xs, ElemTo 66 3 ActR base x) := hel
 have htH : Hid (∀ wr, Below w.heap.size w wr → ListAt ActR 3 false 0 base wr (.slice a xs.length c) xs) := fun wr hw => ht.kept ActR.stable (Nat.le_refl _) (Nat.le_refl _) ((Same.below hw).mono (Nat.zero_le _) hbase)
 have hbH : Hid (base ≤ w.heap.size) := hbase
 clear ht hel hbase
 go_enter Tryz.func46, Tryz.ntmps46
 go_wp2_with (refine wpList_make_full _ rfl (.tmp 6) (.tmp 6) 61 rfl w.heap.size 60 i0 z0 3 Tryz.underlying61 hi0 hz0 hz1 .i64 .i64 xs.length xs.length xs.length rfl rfl rfl rfl (by rw [hz2]; omega) (by unfold maxLen; omega) (Nat.le_refl _) ?_; intro w1 hown1 hgrow1)
 have hFH : Hid (FilledL ActR 3 xs w 0 w1) := FilledL.start hown1 hgrow1
 clear hown1 hgrow1 hi0 hz0 hz1 hz2
 go_loopw [4] (fun i wr => ∃ m : Nat, m ≤ xs.length ∧ i = .int .i64 m ∧ Hid (FilledL ActR 3 xs w m wr)) (fun i _ => xs.length - (intOf i).toNat)
 case atStart => exact ⟨0, Nat.zero_le _, rfl, hFH⟩
 case round =>
  obtain ⟨m, hm, rfl, hF⟩ := hrel
  by_cases hlt : m < xs.length
  ·obtain ⟨b, off, row, rfl, hbb, hrl, hrr, hrx⟩ := (htH.out wr hF.out.1).at m hlt
   have hlt' : (m : Int) < (xs.length : Int) := by omega
   have hcall := helH.out xs[m] (List.getElem_mem hlt) wr row (Nat.le_trans hbH.out hF.out.1.size) hrx hrl
   have hcallH : Hid (Calls Tryz.prog 66 #[.agg row.toArray] wr _) := hcall
   have hrrH : Hid (wr.rangeAt b (off + m * 3) row) := hrr
   have hrlH : Hid (row.length = 3) := hrl
   clear hcall hrr hrl hrx
   go_wp2_with (first
    | (refine wpList_load_mid rfl 113 _ rfl b (off + m * 3) (by first | rfl | (simp; done)) row _ hrrH.out Tryz.underlying113 rfl (by rw [hrlH.out]; exact hldH.out) ?_)
    | (go_at_call 66; refine hcallH.out.mono ?_; rintro e w2 ⟨row', rfl, hl', hone, hx', hb2⟩)
    | (refine wpList_store_mid rfl 60 _ _ rfl w.heap.size (m * 3) row'.toArray (by first | rfl | (simp; done)) (by first | rfl | (simp; done)) (by simpa [hl'] using hF.out.room hlt hb2) (by simpa [hl'] using hstH.out) hone.all ?_))
   go_roundw
   case rel => exact ⟨m + 1, by omega, by go_num, hF.out.next ActR.stable hlt hb2 hl' hx'⟩
   case measure => simp [intOf]; omega
  ·have hend := hF.out
   go_wp2
   go_ret
   exact ⟨_, rfl, hend.done ActR.stable (by omega), hend.1⟩

set_option maxRecDepth 1000000 in
set_option maxHeartbeats 1000000 in
theorem toActSS_calls (v : Value) (xs : List (List ActL)) (w : World) (base : Nat) (hbase : base ≤ w.heap.size) (ht : ListAt (RowR ActR 3) 1 false 0 base w v xs) (hn : xs.length ≤ 1048576) (hel : ∀ x ∈ xs, ListTo 46 3 ActR base x) :
  Calls Tryz.prog 24 #[v] w fun e w' => ∃ u, e = .returned u ∧ ListAt (RowR ActR 3) 1 true w.heap.size w'.heap.size w' u xs ∧ Below w.heap.size w w' := by
 obtain ⟨i0, z0, hi0, hz0, hz1, hz2⟩ := elemT61
 obtain ⟨a, c, rfl⟩ := ht.form
 have helH : Hid (∀ x ∈ xs, ListTo 46 3 ActR base x) := hel
 have htH : Hid (∀ wr, Below w.heap.size w wr → ListAt (RowR ActR 3) 1 false 0 base wr (.slice a xs.length c) xs) := fun wr hw => ht.kept (RowR.stable ActR.stable _) (Nat.le_refl _) (Nat.le_refl _) ((Same.below hw).mono (Nat.zero_le _) hbase)
 have hbH : Hid (base ≤ w.heap.size) := hbase
 clear ht hel hbase
 go_enter Tryz.func24, Tryz.ntmps24
 go_wp2_with (refine wpList_make_full _ rfl (.tmp 6) (.tmp 6) 32 rfl w.heap.size 61 i0 z0 1 Tryz.underlying32 hi0 hz0 hz1 .i64 .i64 xs.length xs.length xs.length rfl rfl rfl rfl (by rw [hz2]; omega) (by unfold maxLen; omega) (Nat.le_refl _) ?_; intro w1 hown1 hgrow1)
 have hFH : Hid (FilledL (RowR ActR 3) 1 xs w 0 w1) := FilledL.start hown1 hgrow1
 clear hown1 hgrow1 hi0 hz0 hz1 hz2
 go_loopw [4] (fun i wr => ∃ m : Nat, m ≤ xs.length ∧ i = .int .i64 m ∧ Hid (FilledL (RowR ActR 3) 1 xs w m wr)) (fun i _ => xs.length - (intOf i).toNat)
 case atStart => exact ⟨0, Nat.zero_le _, rfl, hFH⟩
 case round =>
  obtain ⟨m, hm, rfl, hF⟩ := hrel
  by_cases hlt : m < xs.length
  ·obtain ⟨b, off, row, rfl, hbb, hrl, hrr, ⟨u, rfl, hlu⟩⟩ := (htH.out wr hF.out.1).at m hlt
   have hlt' : (m : Int) < (xs.length : Int) := by omega
   obtain ⟨ua, uc, rfl⟩ := hlu.form
   have hcell : wr.cell? ⟨b, off + m, none⟩ = some (.slice ua xs[m].length uc) := by simpa using hrr 0 _ rfl
   have hcallH : Hid (Calls Tryz.prog 46 #[.slice ua xs[m].length uc] wr _) := helH.out xs[m] (List.getElem_mem hlt) wr _ (Nat.le_trans hbH.out hF.out.1.size) hlu
   obtain ⟨x, hx⟩ : ∃ x, x = xs[m] := ⟨_, rfl⟩
   rw [← hx] at hcell hcallH
   have hxH : Hid (x = xs[m]) := hx
   obtain ⟨ln, hln⟩ : ∃ ln, ln = x.length := ⟨_, rfl⟩
   rw [← hln] at hcell hcallH
   clear hrr hrl hlu hx hln
   go_wp2_with (first
    | (go_at_call 46; refine hcallH.out.mono ?_; rintro e w2 ⟨u', rfl, hl', hb2⟩; obtain ⟨ua', uc', rfl⟩ := hl'.form; obtain ⟨⟨q, hq⟩, hfz⟩ := hF.out.room1 hlt hb2))
   go_roundw
   case rel => exact ⟨m + 1, by omega, by go_num, hF.out.next1 (RowR.stable ActR.stable _) hlt hb2 ⟨_, rfl, by rw [← hxH.out]; exact hl'⟩⟩
   case measure => simp [intOf]; omega
  ·have hend := hF.out
   go_wp2
   go_ret
   exact ⟨_, rfl, hend.done (RowR.stable ActR.stable _) (by omega), hend.1⟩

set_option maxRecDepth 1000000 in
set_option maxHeartbeats 4000000 in
theorem toLit_calls (x : LitL) (base : Nat) (hy : x.small) : ElemTo 6 4 LitR base x := by
 intro w row hbase hrx hrl
 have hinf : Hid ((Tryz.prog.info? 34).map (·.size) = some 4) := by show (Tryz.prog.info? 34).map (·.size) = some 4; kernel_rfl
 obtain ⟨v3, rfl, h3⟩ := hrx
 have c3H : Hid (∀ W, Below w.heap.size w W → Calls Tryz.prog 24 #[v3] W fun e w' => ∃ u, e = .returned u ∧ ListAt ThrR 1 true W.heap.size w'.heap.size w' u x.thr ∧ Below W.heap.size W w') := fun W hW => toActSS_calls v3 x.thr W base (Nat.le_trans hbase hW.size) (h3.kept ThrR.stable (Nat.le_refl _) (Nat.le_refl _) ((Same.below hW).mono (Nat.zero_le _) hbase)) hy.1 (fun y hy1 W2 u hb2 hu2 => toActS_calls u y W2 base hb2 hu2 (hy.2 y hy1) (fun z _ => toAct_calls z base))
 obtain ⟨a3, n3, rfl⟩ := h3.form
 obtain ⟨len3, hlen3⟩ : ∃ n, n = (x.thr).length := ⟨_, rfl⟩
 have hlen3H : Hid (len3 = (x.thr).length) := hlen3
 rw [← hlen3] at c3H ⊢
 clear hrl hbase h3 hlen3
 go_enter Tryz.func6, Tryz.ntmps6
 go_wp2_with fail
 obtain ⟨W0, hW0⟩ : ∃ W : World, W = ((w.alloc (.cells #[.int .i64 x.vars, .int .i64 x.vol, .int .i64 x.locks, .slice a3 len3 n3] 24)).alloc (.cells #[.int .i64 0, .int .i64 0, .int .i64 0, .slice none 0 0] 34)).alloc (.cells #[.int .i64 x.vars, .int .i64 x.vol, .int .i64 x.locks, .slice none 0 0] 34) := ⟨_, rfl⟩
 rw [← hW0]
 have r0 : Hid (Rec3 w W0 4 [.int .i64 x.vars, .int .i64 x.vol, .int .i64 x.locks, .slice a3 len3 n3] [.int .i64 x.vars, .int .i64 x.vol, .int .i64 x.locks, .slice none 0 0]) := Rec3.start hW0 rfl rfl
 clear hW0
 refine (c3H.out W0 r0.out.hb).mono ?_
 rintro e w1 ⟨u3, rfl, g3, hb1⟩
 obtain ⟨b3, m3, rfl⟩ := g3.form
 rw [← hlen3H.out] at g3 ⊢
 have rc1 : Hid (Rec3 w w1 4 [.int .i64 x.vars, .int .i64 x.vol, .int .i64 x.locks, .slice a3 len3 n3] [.int .i64 x.vars, .int .i64 x.vol, .int .i64 x.locks, .slice none 0 0]) := r0.out.call hb1
 have g3H : Hid (ListAt ThrR 1 true (w.heap.size + 3) w1.heap.size w1 (.slice b3 len3 m3) x.thr) := g3.kept ThrR.stable r0.out.sz (Nat.le_refl _) (Same.refl _ _ _)
 obtain ⟨⟨q1_3, xo1_3⟩, xf1_3⟩ := rc1.out.cellO 3 (by omega)
 clear g3 hb1
 have r1 : Hid (Rec3 w (w1.setCell ⟨w.heap.size + 1 + 1, 3, none⟩ (.slice b3 len3 m3)) 4 [.int .i64 x.vars, .int .i64 x.vol, .int .i64 x.locks, .slice a3 len3 n3] [.int .i64 x.vars, .int .i64 x.vol, .int .i64 x.locks, .slice b3 len3 m3]) := (rc1.out.set 3 (.slice b3 len3 m3) (by omega) rfl)
 have g3H : Hid (ListAt ThrR 1 true (w.heap.size + 3) (w1.setCell ⟨w.heap.size + 1 + 1, 3, none⟩ (.slice b3 len3 m3)).heap.size (w1.setCell ⟨w.heap.size + 1 + 1, 3, none⟩ (.slice b3 len3 m3)) (.slice b3 len3 m3) x.thr) := g3H.out.kept ThrR.stable (Nat.le_refl _) (by simp) (Same.trans (Same.refl _ _ _) (same_setCell _ _ _ _ (.inl (by omega))))
 go_wp2_with (first | (refine wpList_load_mid rfl 34 _ rfl (w.heap.size + 1 + 1) 0 rfl [.int .i64 x.vars, .int .i64 x.vol, .int .i64 x.locks, .slice b3 len3 m3] _ r1.out.o Tryz.underlying34 rfl hinf.out ?_) | (refine wpList_store_mid rfl 34 _ _ rfl (w.heap.size + 1) 0 #[.int .i64 x.vars, .int .i64 x.vol, .int .i64 x.locks, .slice b3 len3 m3] rfl rfl r1.out.z hinf.out (OneCells.all (row := [.int .i64 x.vars, .int .i64 x.vol, .int .i64 x.locks, .slice b3 len3 m3]) rfl) ?_))
 refine bodyPost_ret (v := .agg #[.int .i64 x.vars, .int .i64 x.vol, .int .i64 x.locks, .slice b3 len3 m3]) (results_cell_mid rfl _ _ (w.heap.size + 1) [.int .i64 x.vars, .int .i64 x.vol, .int .i64 x.locks, .slice b3 len3 m3] _ rfl (World.rangeAt_setCells_same _ _ _ _ r1.out.z) Tryz.underlying34 rfl hinf.out) rfl ⟨[.int .i64 x.vars, .int .i64 x.vol, .int .i64 x.locks, .slice b3 len3 m3], rfl, rfl, rfl, ⟨_, rfl, ?_⟩, below_setCells _ (by omega) _ _ _ r1.out.hb⟩
 ·exact g3H.out.kept ThrR.stable (by omega) (by rw [size_setCells]; exact Nat.le_refl _) (Same.setCells _ _ _ _ (.inl (by omega)))

set_option maxRecDepth 1000000 in
set_option maxHeartbeats 1000000 in
theorem eqAct_calls (x : ActL) : ElemEq 84 3 ActR x := by
 intro w r1 r2 lo1 hi1 lo2 hi2 h1 h2 hx1 hx2 hl1 hl2
 obtain rfl : r1 = [.int .i64 x.kind, .int .i64 x.var, .int .i64 x.n] := hx1
 obtain rfl : r2 = [.int .i64 x.kind, .int .i64 x.var, .int .i64 x.n] := hx2
 have b0 : (x.kind != x.kind) = false := by simp
 have b1 : (x.var != x.var) = false := by simp
 have b2 : (x.n != x.n) = false := by simp
 clear hl1 hl2 h1 h2
 go_enter Tryz.func84, Tryz.ntmps84
 go_wp2
 go_ret
 exact ⟨rfl, below_2 _ _ _⟩

set_option maxRecDepth 1000000 in
set_option maxHeartbeats 1000000 in
theorem eqActS_calls (u v : Value) (xs : List ActL) (w : World) (lo1 hi1 lo2 hi2 : Nat) (h1 : hi1 ≤ w.heap.size) (h2 : hi2 ≤ w.heap.size) (hu : ListAt ActR 3 true lo1 hi1 w u xs) (hv : ListAt ActR 3 true lo2 hi2 w v xs) (hn : xs.length ≤ 1048576) (hel : ∀ x ∈ xs, ElemEq 84 3 ActR x) :
  Calls Tryz.prog 62 #[u, v] w fun e w' => e = .returned (.bool true) ∧ Below w.heap.size w w' := by
 obtain ⟨a, c, rfl⟩ := hu.form
 obtain ⟨a2, c2, rfl⟩ := hv.form
 have helH : Hid (∀ x ∈ xs, ElemEq 84 3 ActR x) := hel
 have huH : Hid (∀ wr, Below w.heap.size w wr → ListAt ActR 3 true lo1 hi1 wr (.slice a xs.length c) xs) := fun wr hw => hu.kept ActR.stable (Nat.le_refl _) (Nat.le_refl _) ((Same.below hw).mono (Nat.zero_le _) h1)
 have hvH : Hid (∀ wr, Below w.heap.size w wr → ListAt ActR 3 true lo2 hi2 wr (.slice a2 xs.length c2) xs) := fun wr hw => hv.kept ActR.stable (Nat.le_refl _) (Nat.le_refl _) ((Same.below hw).mono (Nat.zero_le _) h2)
 have hhH : Hid (hi1 ≤ w.heap.size ∧ hi2 ≤ w.heap.size) := ⟨h1, h2⟩
 clear hu hv hel h1 h2
 go_enter Tryz.func62, Tryz.ntmps62
 go_wp2
 go_loopw [5] (fun i wr => ∃ m : Nat, m ≤ xs.length ∧ i = .int .i64 m ∧ Hid (Below w.heap.size w wr)) (fun i _ => xs.length - (intOf i).toNat)
 case atStart => exact ⟨0, Nat.zero_le _, rfl, Below.refl _ _⟩
 case round =>
  obtain ⟨m, hm, rfl, hB⟩ := hrel
  by_cases hlt : m < xs.length
  ·obtain ⟨b, off, r1, rfl, hb1, hl1, hr1, hx1⟩ := (huH.out wr hB.out).at m hlt
   obtain ⟨b', off', r2, rfl, hb2, hl2, hr2, hx2⟩ := (hvH.out wr hB.out).at m hlt
   have hlt' : (m : Int) < (xs.length : Int) := by omega
   have hsz := hB.out.size
   have hcH : Hid (∀ W, Below wr.heap.size wr W → Calls Tryz.prog 84 #[.agg r1.toArray, .agg r2.toArray] W fun e w' => e = .returned (.bool true) ∧ Below W.heap.size W w') := fun W hW =>
    helH.out xs[m] (List.getElem_mem hlt) W r1 r2 lo1 hi1 lo2 hi2 (by have := hW.size; have := hhH.out.1; omega) (by have := hW.size; have := hhH.out.2; omega)
     (ActR.stable _ _ _ _ _ _ _ _ _ hx1 (Nat.le_refl _) (Nat.le_refl _) ((Same.below hW).mono (Nat.zero_le _) (by have := hhH.out.1; omega)))
     (ActR.stable _ _ _ _ _ _ _ _ _ hx2 (Nat.le_refl _) (Nat.le_refl _) ((Same.below hW).mono (Nat.zero_le _) (by have := hhH.out.2; omega))) hl1 hl2
   obtain ⟨x, hx⟩ : ∃ x, x = xs[m] := ⟨_, rfl⟩
   rw [← hx] at hx1 hx2
   obtain rfl : r1 = [.int .i64 x.kind, .int .i64 x.var, .int .i64 x.n] := hx1
   obtain rfl : r2 = [.int .i64 x.kind, .int .i64 x.var, .int .i64 x.n] := hx2
   have hmk : Hid (∀ W, Below wr.heap.size wr W → (Below wr.heap.size wr W ∧ W.cell? ⟨b, off + m * 3, none⟩ = some (.int .i64 x.kind) ∧ W.cell? ⟨b, off + m * 3 + 1, none⟩ = some (.int .i64 x.var) ∧ W.cell? ⟨b, off + m * 3 + 2, none⟩ = some (.int .i64 x.n) ∧ W.cell? ⟨b', off' + m * 3, none⟩ = some (.int .i64 x.kind) ∧ W.cell? ⟨b', off' + m * 3 + 1, none⟩ = some (.int .i64 x.var) ∧ W.cell? ⟨b', off' + m * 3 + 2, none⟩ = some (.int .i64 x.n))) := fun W hW => by
    have kp1 := rangeAt_same (Same.below hW) (Nat.zero_le _) (show b < wr.heap.size by have := hhH.out.1; omega) hr1
    have kp2 := rangeAt_same (Same.below hW) (Nat.zero_le _) (show b' < wr.heap.size by have := hhH.out.2; omega) hr2
    exact ⟨hW, kp1 0 _ rfl, kp1 1 _ rfl, kp1 2 _ rfl, kp2 0 _ rfl, kp2 1 _ rfl, kp2 2 _ rfl⟩
   clear hr1 hr2 hl1 hl2 hsz hb1 hb2 hx
   have hS0 := hmk.out wr (Below.refl _ _)
   go_wp2
   go_region_held3 (fun W => Below wr.heap.size wr W ∧ W.cell? ⟨b, off + m * 3, none⟩ = some (.int .i64 x.kind) ∧ W.cell? ⟨b, off + m * 3 + 1, none⟩ = some (.int .i64 x.var) ∧ W.cell? ⟨b, off + m * 3 + 2, none⟩ = some (.int .i64 x.n) ∧ W.cell? ⟨b', off' + m * 3, none⟩ = some (.int .i64 x.kind) ∧ W.cell? ⟨b', off' + m * 3 + 1, none⟩ = some (.int .i64 x.var) ∧ W.cell? ⟨b', off' + m * 3 + 2, none⟩ = some (.int .i64 x.n)) (first | assumption | exact hmk.out _ (Below.drew (And.left (by assumption))) | exact hmk.out _ (below_on (And.left (by assumption)) (by assumption))) (first | (go_at_call 84; refine (hcH.out _ (by first | exact Below.refl _ _ | assumption | exact And.left (by assumption))).mono ?_; rintro e w2 ⟨rfl, hb2⟩))
   go_wp2
   go_roundw
   case rel => exact ⟨m + 1, by omega, by go_num, below_on hB.out (by first | assumption | exact And.left (by assumption))⟩
   case measure => simp [intOf]; omega
  ·go_wp2
   go_ret
   exact ⟨rfl, hB.out⟩

set_option maxRecDepth 1000000 in
set_option maxHeartbeats 1000000 in
theorem eqActSS_calls (u v : Value) (xs : List (List ActL)) (w : World) (lo1 hi1 lo2 hi2 : Nat) (h1 : hi1 ≤ w.heap.size) (h2 : hi2 ≤ w.heap.size) (hu : ListAt (RowR ActR 3) 1 true lo1 hi1 w u xs) (hv : ListAt (RowR ActR 3) 1 true lo2 hi2 w v xs) (hn : xs.length ≤ 1048576) (hel : ∀ x ∈ xs, ListEq 62 3 ActR x) :
  Calls Tryz.prog 33 #[u, v] w fun e w' => e = .returned (.bool true) ∧ Below w.heap.size w w' := by
 obtain ⟨a, c, rfl⟩ := hu.form
 obtain ⟨a2, c2, rfl⟩ := hv.form
 have helH : Hid (∀ x ∈ xs, ListEq 62 3 ActR x) := hel
 have huH : Hid (∀ wr, Below w.heap.size w wr → ListAt (RowR ActR 3) 1 true lo1 hi1 wr (.slice a xs.length c) xs) := fun wr hw => hu.kept (RowR.stable ActR.stable _) (Nat.le_refl _) (Nat.le_refl _) ((Same.below hw).mono (Nat.zero_le _) h1)
 have hvH : Hid (∀ wr, Below w.heap.size w wr → ListAt (RowR ActR 3) 1 true lo2 hi2 wr (.slice a2 xs.length c2) xs) := fun wr hw => hv.kept (RowR.stable ActR.stable _) (Nat.le_refl _) (Nat.le_refl _) ((Same.below hw).mono (Nat.zero_le _) h2)
 have hhH : Hid (hi1 ≤ w.heap.size ∧ hi2 ≤ w.heap.size) := ⟨h1, h2⟩
 clear hu hv hel h1 h2
 go_enter Tryz.func33, Tryz.ntmps33
 go_wp2
 go_loopw [5] (fun i wr => ∃ m : Nat, m ≤ xs.length ∧ i = .int .i64 m ∧ Hid (Below w.heap.size w wr)) (fun i _ => xs.length - (intOf i).toNat)
 case atStart => exact ⟨0, Nat.zero_le _, rfl, Below.refl _ _⟩
 case round =>
  obtain ⟨m, hm, rfl, hB⟩ := hrel
  by_cases hlt : m < xs.length
  ·obtain ⟨b, off, r1, rfl, hb1, hl1, hr1, ⟨p1, rfl, hx1⟩⟩ := (huH.out wr hB.out).at m hlt
   obtain ⟨b', off', r2, rfl, hb2, hl2, hr2, ⟨p2, rfl, hx2⟩⟩ := (hvH.out wr hB.out).at m hlt
   have hlt' : (m : Int) < (xs.length : Int) := by omega
   have hsz := hB.out.size
   obtain ⟨ua, uc, rfl⟩ := hx1.form
   obtain ⟨ua2, uc2, rfl⟩ := hx2.form
   have hcH : Hid (∀ W, Below wr.heap.size wr W → Calls Tryz.prog 62 #[.slice ua xs[m].length uc, .slice ua2 xs[m].length uc2] W fun e w' => e = .returned (.bool true) ∧ Below W.heap.size W w') := fun W hW =>
    helH.out xs[m] (List.getElem_mem hlt) W _ _ lo1 hi1 lo2 hi2 (by have := hW.size; have := hhH.out.1; omega) (by have := hW.size; have := hhH.out.2; omega)
     (hx1.kept ActR.stable (Nat.le_refl _) (Nat.le_refl _) ((Same.below hW).mono (Nat.zero_le _) (by have := hhH.out.1; omega)))
     (hx2.kept ActR.stable (Nat.le_refl _) (Nat.le_refl _) ((Same.below hW).mono (Nat.zero_le _) (by have := hhH.out.2; omega)))
   have hmk : Hid (∀ W, Below wr.heap.size wr W → (Below wr.heap.size wr W ∧ W.cell? ⟨b, off + m, none⟩ = some (.slice ua xs[m].length uc) ∧ W.cell? ⟨b', off' + m, none⟩ = some (.slice ua2 xs[m].length uc2))) := fun W hW => by
    have kp1 := rangeAt_same (Same.below hW) (Nat.zero_le _) (show b < wr.heap.size by have := hhH.out.1; omega) hr1
    have kp2 := rangeAt_same (Same.below hW) (Nat.zero_le _) (show b' < wr.heap.size by have := hhH.out.2; omega) hr2
    exact ⟨hW, by simpa using kp1 0 _ rfl, by simpa using kp2 0 _ rfl⟩
   clear hx1 hx2 hr1 hr2 hl1 hl2
   obtain ⟨ln, hln⟩ : ∃ ln, ln = xs[m].length := ⟨_, rfl⟩
   rw [← hln] at hcH hmk
   clear hln hsz hb1 hb2
   have hS0 := hmk.out wr (Below.refl _ _)
   go_wp2
   go_region_held3 (fun W => Below wr.heap.size wr W ∧ W.cell? ⟨b, off + m, none⟩ = some (.slice ua ln uc) ∧ W.cell? ⟨b', off' + m, none⟩ = some (.slice ua2 ln uc2)) (first | assumption | exact hmk.out _ (Below.drew (And.left (by assumption))) | exact hmk.out _ (below_on (And.left (by assumption)) (by assumption))) (first | (go_at_call 62; refine (hcH.out _ (by first | exact Below.refl _ _ | assumption | exact And.left (by assumption))).mono ?_; rintro e w2 ⟨rfl, hb2⟩))
   go_wp2
   go_roundw
   case rel => exact ⟨m + 1, by omega, by go_num, below_on hB.out (by first | assumption | exact And.left (by assumption))⟩
   case measure => simp [intOf]; omega
  ·go_wp2
   go_ret
   exact ⟨rfl, hB.out⟩

set_option maxRecDepth 1000000 in
set_option maxHeartbeats 4000000 in
theorem eqLit_calls (x : LitL) (hy : x.small) : ElemEq 10 4 LitR x := by
 intro w r1 r2 lo1 hi1 lo2 hi2 h1 h2 hx1 hx2 hl1 hl2
 obtain ⟨v1_3, rfl, g1_3⟩ := hx1
 obtain ⟨v2_3, rfl, g2_3⟩ := hx2
 have c3 : Hid (∀ W, Below w.heap.size w W → Calls Tryz.prog 33 #[v1_3, v2_3] W fun e w' => e = .returned (.bool true) ∧ Below W.heap.size W w') := fun W hW =>
  eqActSS_calls v1_3 v2_3 x.thr W lo1 hi1 lo2 hi2 (Nat.le_trans h1 hW.size) (Nat.le_trans h2 hW.size) (g1_3.kept ThrR.stable (Nat.le_refl _) (Nat.le_refl _) ((Same.below hW).mono (Nat.zero_le _) h1)) (g2_3.kept ThrR.stable (Nat.le_refl _) (Nat.le_refl _) ((Same.below hW).mono (Nat.zero_le _) h2)) hy.1 (fun y hy1 W2 u v l1 g1 l2 g2 a1 a2 b1 b2 => eqActS_calls u v y W2 l1 g1 l2 g2 a1 a2 b1 b2 (hy.2 y hy1) (fun z _ => eqAct_calls z))
 obtain ⟨a1_3, k1_3, rfl⟩ := g1_3.form
 obtain ⟨a2_3, k2_3, rfl⟩ := g2_3.form
 have b0 : (x.vars != x.vars) = false := by simp
 have b1 : (x.vol != x.vol) = false := by simp
 have b2 : (x.locks != x.locks) = false := by simp
 clear hl1 hl2 h1 h2 g1_3 g2_3
 go_enter Tryz.func10, Tryz.ntmps10
 go_wp2_with fail
 obtain ⟨W0, hW0⟩ : ∃ W : World, W = (w.alloc (.cells #[.int .i64 x.vars, .int .i64 x.vol, .int .i64 x.locks, .slice a1_3 x.thr.length k1_3] 34)).alloc (.cells #[.int .i64 x.vars, .int .i64 x.vol, .int .i64 x.locks, .slice a2_3 x.thr.length k2_3] 34) := ⟨_, rfl⟩
 rw [← hW0]
 have r0 : Hid (Rec2 w W0 [.int .i64 x.vars, .int .i64 x.vol, .int .i64 x.locks, .slice a1_3 x.thr.length k1_3] [.int .i64 x.vars, .int .i64 x.vol, .int .i64 x.locks, .slice a2_3 x.thr.length k2_3]) := Rec2.start hW0
 clear hW0
 refine (c3.out W0 r0.out.hb).mono ?_
 rintro e w1 ⟨rfl, hb1⟩
 have r1 : Hid (Rec2 w w1 [.int .i64 x.vars, .int .i64 x.vol, .int .i64 x.locks, .slice a1_3 x.thr.length k1_3] [.int .i64 x.vars, .int .i64 x.vol, .int .i64 x.locks, .slice a2_3 x.thr.length k2_3]) := r0.out.call hb1
 clear hb1
 go_wp2
 go_ret
 exact ⟨rfl, r1.out.hb⟩

set_option maxRecDepth 1000000 in
theorem szActS_calls (x : List ActL) (hn : x.length ≤ 9223372036854775807) : ListSz 39 3 ActR List.length x := by
 intro w u own lo hi l hh ht hl0 hl1
 obtain ⟨a, c, rfl⟩ := ht.form
 clear ht hh
 obtain ⟨n, hnn⟩ : ∃ n, n = x.length := ⟨_, rfl⟩
 rw [← hnn] at hn ⊢
 clear hnn
 by_cases hc : l < n
 ·go_enter Tryz.func39, Tryz.ntmps39
  go_wp2
  go_ret
  exact ⟨SzQ.neg hc, Below.refl _ _⟩
 ·go_enter Tryz.func39, Tryz.ntmps39
  go_wp2
  go_ret
  exact ⟨SzQ.pos (by omega) rfl, Below.refl _ _⟩

set_option maxRecDepth 1000000 in
set_option maxHeartbeats 1000000 in
theorem szActSS_calls (v : Value) (xs : List (List ActL)) (w : World) (own : Bool) (lo hi : Nat) (l : Int) (hh : hi ≤ w.heap.size) (ht : ListAt (RowR ActR 3) 1 own lo hi w v xs) (hn : xs.length ≤ 9223372036854775807) (hl0 : 0 ≤ l) (hl1 : l ≤ 1048576) (hel : ∀ x ∈ xs, ListSz 39 3 ActR List.length x) :
  Calls Tryz.prog 16 #[v, .int .i64 l] w fun e w' => SzQ l (sumL List.length xs) e ∧ Below w.heap.size w w' := by
 obtain ⟨a, c, rfl⟩ := ht.form
 have helH : Hid (∀ x ∈ xs, ListSz 39 3 ActR List.length x) := hel
 have htH : Hid (∀ wr, Below w.heap.size w wr → ListAt (RowR ActR 3) 1 own lo hi wr (.slice a xs.length c) xs) := fun wr hw => ht.kept (RowR.stable ActR.stable _) (Nat.le_refl _) (Nat.le_refl _) ((Same.below hw).mono (Nat.zero_le _) hh)
 have hhH : Hid (hi ≤ w.heap.size) := hh
 clear ht hel hh
 by_cases hc : l < xs.length
 ·go_enter Tryz.func16, Tryz.ntmps16
  go_wp2
  go_ret
  exact ⟨SzQ.neg (by unfold sumL; omega), Below.refl _ _⟩
 go_enter Tryz.func16, Tryz.ntmps16
 go_wp2
 go_loopw [1, 5] (fun q i wr => ∃ (m : Nat) (z : Int), m ≤ xs.length ∧ q = .int .i64 z ∧ 0 ≤ z ∧ z ≤ 1048576 ∧ Hid (z = l - (xs.length + ((xs.take m).map List.length).sum : Nat)) ∧ i = .int .i64 m ∧ Hid (Below w.heap.size w wr)) (fun _ i _ => xs.length - (intOf i).toNat)
 case atStart => exact ⟨0, _, Nat.zero_le _, rfl, by omega, by omega, by simp [Hid], rfl, Below.refl _ _⟩
 case round =>
  obtain ⟨m, z, hm, rfl, hz0, hz1, hz, rfl, hB⟩ := hrel
  by_cases hlt : m < xs.length
  ·obtain ⟨b, off, row, rfl, hbb, hrl, hrr, ⟨u, rfl, hlu⟩⟩ := (htH.out wr hB.out).at m hlt
   have hlt' : (m : Int) < (xs.length : Int) := by omega
   obtain ⟨ua, uc, rfl⟩ := hlu.form
   have hcell : wr.cell? ⟨b, off + m, none⟩ = some (.slice ua xs[m].length uc) := by simpa using hrr 0 _ rfl
   have hcallH : Hid (Calls Tryz.prog 39 #[.slice ua xs[m].length uc, .int .i64 z] wr fun e w' => SzQ z (List.length xs[m]) e ∧ Below wr.heap.size wr w') := helH.out xs[m] (List.getElem_mem hlt) wr _ own lo hi z (Nat.le_trans hhH.out hB.out.size) hlu hz0 hz1
   have hst : Hid (((xs.take (m + 1)).map List.length).sum = ((xs.take m).map List.length).sum + List.length xs[m]) := sum_take List.length xs m hlt
   have hle : Hid (((xs.take (m + 1)).map List.length).sum ≤ (xs.map List.length).sum) := sum_take_le List.length xs (m + 1)
   obtain ⟨n, hnn⟩ : ∃ n, n = xs[m].length := ⟨_, rfl⟩
   rw [← hnn] at hcell hcallH hst
   clear hrr hrl hlu hnn
   by_cases hcc : z < n
   ·go_wp2_with (first
     | (go_at_call 39; refine hcallH.out.mono ?_; rintro e w2 ⟨⟨r, rfl, hr1, hr2⟩, hb2⟩; obtain rfl := hr1 hcc))
    go_ret
    have := hz.out; have := hst.out; have := hle.out
    exact ⟨SzQ.neg (by unfold sumL; omega), below_on2 hB.out hb2⟩
   ·go_wp2_with (first
     | (go_at_call 39; refine hcallH.out.mono ?_; rintro e w2 ⟨⟨r, rfl, hr1, hr2⟩, hb2⟩; obtain rfl := hr2 (by omega)))
    go_roundw
    case rel =>
     have := hz.out; have := hst.out
     exact ⟨m + 1, _, by omega, rfl, by omega, by omega, (show _ = _ by omega), by go_num, below_on2 hB.out hb2⟩
    case measure => simp [intOf]; omega
  ·go_wp2
   go_ret
   have h := hz.out
   rw [List.take_of_length_le (by omega)] at h
   exact ⟨SzQ.pos (by unfold sumL; omega) (by unfold sumL; omega), hB.out⟩
end Go.Proofs.YtknbchheoloaoaaGreat
