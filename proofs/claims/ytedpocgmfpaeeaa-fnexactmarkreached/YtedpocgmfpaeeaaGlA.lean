/- Heaps of the collector: copies, comparisons. -/
import Derived.Test.YtedpocgmfpaeeaaLs
namespace Go.Proofs.Ytedpocgmfpaeeaa
set_option linter.unusedVariables false
open Go.ChangeShapes Go.WideShapes Go.ChangeAt Go.RowKit

structure GobL where
  id : Int
  adr : Int
  age : Int
  kind : Int
  flds : List Int
structure GhpL where
  objs : List GobL
  roots : List Int
  queue : List Int
  from_ : Int
  tops : List Int
  dirty : List Int
def GobR : Rd GobL := fun own lo hi w row x => ∃ v, row = [.int .i64 x.id, .int .i64 x.adr, .int .i64 x.age, .int .i64 x.kind, v] ∧ ListAt IntR 1 own lo hi w v x.flds
theorem GobR.stable : Stable GobR := fun _ _ _ _ _ _ _ _ _ ⟨v, hv, hx⟩ h1 h2 hs => ⟨v, hv, hx.kept IntR.stable h1 h2 hs⟩
def GhpR : Rd GhpL := fun own lo hi w row x => ∃ v0 v1 v2 v4 v5, row = [v0, v1, v2, .int .i64 x.from_, v4, v5] ∧ ListAt GobR 5 own lo hi w v0 x.objs ∧ ListAt IntR 1 own lo hi w v1 x.roots ∧ ListAt IntR 1 own lo hi w v2 x.queue ∧ ListAt IntR 1 own lo hi w v4 x.tops ∧ ListAt IntR 1 own lo hi w v5 x.dirty
theorem GhpR.stable : Stable GhpR := fun _ _ _ _ _ _ _ _ _ ⟨v0, v1, v2, v4, v5, hv, h0, h1', h2', h4, h5⟩ h1 h2 hs => ⟨v0, v1, v2, v4, v5, hv, h0.kept GobR.stable h1 h2 hs, h1'.kept IntR.stable h1 h2 hs, h2'.kept IntR.stable h1 h2 hs, h4.kept IntR.stable h1 h2 hs, h5.kept IntR.stable h1 h2 hs⟩
def GobL.small (x : GobL) : Prop := x.flds.length ≤ 1048576
def GhpL.small (x : GhpL) : Prop := x.objs.length ≤ 1048576 ∧ x.roots.length ≤ 1048576 ∧ x.queue.length ≤ 1048576 ∧ x.tops.length ≤ 1048576 ∧ x.dirty.length ≤ 1048576 ∧ ∀ y ∈ x.objs, y.small

theorem elemT52 : ∃ i z, Try.prog.info? 52 = some i ∧ i.zero = some z ∧ i.size = 5 ∧ i.bytes = 56 := by
  obtain ⟨i0, hi0⟩ : ∃ i, Try.prog.info? 52 = some i := Option.isSome_iff_exists.1 (by kernel_rfl)
  obtain ⟨z, hz⟩ : ∃ z, (Try.prog.info? 52).bind (·.zero) = some z := Option.isSome_iff_exists.1 (by kernel_rfl)
  refine ⟨i0, z, hi0, ?_, ?_, ?_⟩
  · rw [hi0] at hz; exact hz
  · have : (Try.prog.info? 52).map (·.size) = some 5 := by kernel_rfl
    rw [hi0] at this; exact Option.some.inj this
  · have : (Try.prog.info? 52).map (·.bytes) = some 56 := by kernel_rfl
    rw [hi0] at this; exact Option.some.inj this

theorem elemT2 : ∃ i z, Try.prog.info? 2 = some i ∧ i.zero = some z ∧ i.size = 1 ∧ i.bytes = 8 := by
  obtain ⟨i0, hi0⟩ : ∃ i, Try.prog.info? 2 = some i := Option.isSome_iff_exists.1 (by kernel_rfl)
  obtain ⟨z, hz⟩ : ∃ z, (Try.prog.info? 2).bind (·.zero) = some z := Option.isSome_iff_exists.1 (by kernel_rfl)
  refine ⟨i0, z, hi0, ?_, ?_, ?_⟩
  · rw [hi0] at hz; exact hz
  · have : (Try.prog.info? 2).map (·.size) = some 1 := by kernel_rfl
    rw [hi0] at this; exact Option.some.inj this
  · have : (Try.prog.info? 2).map (·.bytes) = some 8 := by kernel_rfl
    rw [hi0] at this; exact Option.some.inj this

set_option maxRecDepth 1000000 in
set_option maxHeartbeats 1000000 in
theorem toInts_calls (v : Value) (xs : List Int) (w : World) (base : Nat) (hbase : base ≤ w.heap.size) (ht : ListAt IntR 1 false 0 base w v xs) (hn : xs.length ≤ 1048576) :
    Calls Try.prog 25 #[v] w fun e w' => ∃ u, e = .returned u ∧ ListAt IntR 1 true w.heap.size w'.heap.size w' u xs ∧ Below w.heap.size w w' := by
  obtain ⟨i0, z0, hi0, hz0, hz1, hz2⟩ := elemT2
  obtain ⟨a, c, rfl⟩ := ht.form
  have htH : Hid (∀ wr, Below w.heap.size w wr → ListAt IntR 1 false 0 base wr (.slice a xs.length c) xs) := fun wr hw => ht.kept IntR.stable (Nat.le_refl _) (Nat.le_refl _) ((Same.below hw).mono (Nat.zero_le _) hbase)
  clear ht hbase
  go_enter Try.func25, Try.ntmps25
  go_wp2_with (refine wpList_make_full _ rfl (.tmp 6) (.tmp 6) 23 rfl w.heap.size 2 i0 z0 1 Try.underlying23 hi0 hz0 hz1 .i64 .i64 xs.length xs.length xs.length rfl rfl rfl rfl (by rw [hz2]; omega) (by unfold maxLen; omega) (Nat.le_refl _) ?_; intro w1 hown1 hgrow1)
  have hFH : Hid (FilledL IntR 1 xs w 0 w1) := FilledL.start hown1 hgrow1
  clear hown1 hgrow1 hi0 hz0 hz1 hz2
  go_loopw [4] (fun i wr => ∃ m : Nat, m ≤ xs.length ∧ i = .int .i64 m ∧ Hid (FilledL IntR 1 xs w m wr)) (fun i _ => xs.length - (intOf i).toNat)
  case atStart => exact ⟨0, Nat.zero_le _, rfl, hFH⟩
  case round =>
    obtain ⟨m, hm, rfl, hF⟩ := hrel
    by_cases hlt : m < xs.length
    · obtain ⟨b, off, row, rfl, hbb, hrl, hrr, hrx⟩ := (htH.out wr hF.out.1).at m hlt
      have hlt' : (m : Int) < (xs.length : Int) := by omega
      have hrow : row = [.int .i64 xs[m]] := hrx
      have hcell : wr.cell? ⟨b, off + m, none⟩ = some (.int .i64 xs[m]) := by simpa using hrr 0 (.int .i64 xs[m]) (by rw [hrow]; rfl)
      have hroom := hF.out.room hlt (Below.refl _ _) 0 (by omega)
      have hsome : ∃ u, wr.cell? ⟨w.heap.size, m, none⟩ = some u := Option.isSome_iff_exists.1 (by simpa using hroom.1)
      have hfz : wr.frozen? ⟨w.heap.size, m, none⟩ = false := by simpa using hroom.2
      obtain ⟨u, hu⟩ := hsome
      have hnx : FilledL IntR 1 xs w (m + 1) (wr.setCells w.heap.size (m * 1) [.int .i64 xs[m]]) := hF.out.next IntR.stable hlt (Below.refl _ _) rfl rfl
      have hnxH : Hid (FilledL IntR 1 xs w (m + 1) (wr.setCell ⟨w.heap.size, m, none⟩ (.int .i64 xs[m]))) := by
        have e : m * 1 = m := Nat.mul_one m
        rw [e] at hnx; exact hnx
      obtain ⟨z, hz⟩ : ∃ z, z = xs[m] := ⟨_, rfl⟩
      rw [← hz] at hcell hnxH
      clear hz hnx hrow hrx hrr hrl hroom
      go_wp2
      go_roundw
      case rel => exact ⟨m + 1, by omega, by go_num, hnxH⟩
      case measure => simp [intOf]; omega
    · have hend := hF.out
      go_wp2
      go_ret
      exact ⟨_, rfl, hend.done IntR.stable (by omega), hend.1⟩

set_option maxRecDepth 1000000 in
set_option maxHeartbeats 4000000 in
theorem toGob_calls (x : GobL) (base : Nat) (hy : x.small) : ElemTo 39 5 GobR base x := by
  intro w row hbase hrx hrl
  have hinf : Hid ((Try.prog.info? 52).map (·.size) = some 5) := by show (Try.prog.info? 52).map (·.size) = some 5; kernel_rfl
  obtain ⟨v4, rfl, h4⟩ := hrx
  have c4H : Hid (∀ W, Below w.heap.size w W → Calls Try.prog 25 #[v4] W fun e w' => ∃ u, e = .returned u ∧ ListAt IntR 1 true W.heap.size w'.heap.size w' u x.flds ∧ Below W.heap.size W w') := fun W hW => toInts_calls v4 x.flds W base (Nat.le_trans hbase hW.size) (h4.kept IntR.stable (Nat.le_refl _) (Nat.le_refl _) ((Same.below hW).mono (Nat.zero_le _) hbase)) hy
  obtain ⟨a4, n4, rfl⟩ := h4.form
  obtain ⟨len4, hlen4⟩ : ∃ n, n = (x.flds).length := ⟨_, rfl⟩
  have hlen4H : Hid (len4 = (x.flds).length) := hlen4
  rw [← hlen4] at c4H ⊢
  clear hrl hbase h4 hlen4
  go_enter Try.func39, Try.ntmps39
  go_wp2_with fail
  obtain ⟨W0, hW0⟩ : ∃ W : World, W = ((w.alloc (.cells #[.int .i64 x.id, .int .i64 x.adr, .int .i64 x.age, .int .i64 x.kind, .slice a4 len4 n4] 76)).alloc (.cells #[.int .i64 0, .int .i64 0, .int .i64 0, .int .i64 0, .slice none 0 0] 52)).alloc (.cells #[.int .i64 x.id, .int .i64 x.adr, .int .i64 x.age, .int .i64 x.kind, .slice none 0 0] 52) := ⟨_, rfl⟩
  rw [← hW0]
  have r0 : Hid (Rec3 w W0 5 [.int .i64 x.id, .int .i64 x.adr, .int .i64 x.age, .int .i64 x.kind, .slice a4 len4 n4] [.int .i64 x.id, .int .i64 x.adr, .int .i64 x.age, .int .i64 x.kind, .slice none 0 0]) := Rec3.start hW0 rfl rfl
  clear hW0
  refine (c4H.out W0 r0.out.hb).mono ?_
  rintro e w1 ⟨u4, rfl, g4, hb1⟩
  obtain ⟨b4, m4, rfl⟩ := g4.form
  rw [← hlen4H.out] at g4 ⊢
  have rc1 : Hid (Rec3 w w1 5 [.int .i64 x.id, .int .i64 x.adr, .int .i64 x.age, .int .i64 x.kind, .slice a4 len4 n4] [.int .i64 x.id, .int .i64 x.adr, .int .i64 x.age, .int .i64 x.kind, .slice none 0 0]) := r0.out.call hb1
  have g4H : Hid (ListAt IntR 1 true (w.heap.size + 3) w1.heap.size w1 (.slice b4 len4 m4) x.flds) := g4.kept IntR.stable r0.out.sz (Nat.le_refl _) (Same.refl _ _ _)
  obtain ⟨⟨q1_4, xo1_4⟩, xf1_4⟩ := rc1.out.cellO 4 (by omega)
  clear g4 hb1
  have r1 : Hid (Rec3 w (w1.setCell ⟨w.heap.size + 1 + 1, 4, none⟩ (.slice b4 len4 m4)) 5 [.int .i64 x.id, .int .i64 x.adr, .int .i64 x.age, .int .i64 x.kind, .slice a4 len4 n4] [.int .i64 x.id, .int .i64 x.adr, .int .i64 x.age, .int .i64 x.kind, .slice b4 len4 m4]) := (rc1.out.set 4 (.slice b4 len4 m4) (by omega) rfl)
  have g4H : Hid (ListAt IntR 1 true (w.heap.size + 3) (w1.setCell ⟨w.heap.size + 1 + 1, 4, none⟩ (.slice b4 len4 m4)).heap.size (w1.setCell ⟨w.heap.size + 1 + 1, 4, none⟩ (.slice b4 len4 m4)) (.slice b4 len4 m4) x.flds) := g4H.out.kept IntR.stable (Nat.le_refl _) (by simp) (Same.trans (Same.refl _ _ _) (same_setCell _ _ _ _ (.inl (by omega))))
  go_wp2_with (first | (refine wpList_load_mid rfl 52 _ rfl (w.heap.size + 1 + 1) 0 rfl [.int .i64 x.id, .int .i64 x.adr, .int .i64 x.age, .int .i64 x.kind, .slice b4 len4 m4] _ r1.out.o Try.underlying52 rfl hinf.out ?_) | (refine wpList_store_mid rfl 52 _ _ rfl (w.heap.size + 1) 0 #[.int .i64 x.id, .int .i64 x.adr, .int .i64 x.age, .int .i64 x.kind, .slice b4 len4 m4] rfl rfl r1.out.z hinf.out (OneCells.all (row := [.int .i64 x.id, .int .i64 x.adr, .int .i64 x.age, .int .i64 x.kind, .slice b4 len4 m4]) rfl) ?_))
  refine bodyPost_ret (v := .agg #[.int .i64 x.id, .int .i64 x.adr, .int .i64 x.age, .int .i64 x.kind, .slice b4 len4 m4]) (results_cell_mid rfl _ _ (w.heap.size + 1) [.int .i64 x.id, .int .i64 x.adr, .int .i64 x.age, .int .i64 x.kind, .slice b4 len4 m4] _ rfl (World.rangeAt_setCells_same _ _ _ _ r1.out.z) Try.underlying52 rfl hinf.out) rfl ⟨[.int .i64 x.id, .int .i64 x.adr, .int .i64 x.age, .int .i64 x.kind, .slice b4 len4 m4], rfl, rfl, rfl, ⟨_, rfl, ?_⟩, below_setCells _ (by omega) _ _ _ r1.out.hb⟩
  · exact g4H.out.kept IntR.stable (by omega) (by rw [size_setCells]; exact Nat.le_refl _) (Same.setCells _ _ _ _ (.inl (by omega)))

set_option maxRecDepth 1000000 in
set_option maxHeartbeats 1000000 in
theorem toGobS_calls (v : Value) (xs : List GobL) (w : World) (base : Nat) (hbase : base ≤ w.heap.size) (ht : ListAt GobR 5 false 0 base w v xs) (hn : xs.length ≤ 1048576) (hel : ∀ x ∈ xs, ElemTo 39 5 GobR base x) :
    Calls Try.prog 24 #[v] w fun e w' => ∃ u, e = .returned u ∧ ListAt GobR 5 true w.heap.size w'.heap.size w' u xs ∧ Below w.heap.size w w' := by
  obtain ⟨i0, z0, hi0, hz0, hz1, hz2⟩ := elemT52
  have hld : (Try.prog.info? 76).map (·.size) = some 5 := by kernel_rfl
  have hst : (Try.prog.info? 52).map (·.size) = some 5 := by kernel_rfl
  have hldH : Hid ((Try.prog.info? 76).map (·.size) = some 5) := hld
  have hstH : Hid ((Try.prog.info? 52).map (·.size) = some 5) := hst
  clear hld hst
  obtain ⟨a, c, rfl⟩ := ht.form
  have helH : Hid (∀ x ∈ xs, ElemTo 39 5 GobR base x) := hel
  have htH : Hid (∀ wr, Below w.heap.size w wr → ListAt GobR 5 false 0 base wr (.slice a xs.length c) xs) := fun wr hw => ht.kept GobR.stable (Nat.le_refl _) (Nat.le_refl _) ((Same.below hw).mono (Nat.zero_le _) hbase)
  have hbH : Hid (base ≤ w.heap.size) := hbase
  clear ht hel hbase
  go_enter Try.func24, Try.ntmps24
  go_wp2_with (refine wpList_make_full _ rfl (.tmp 6) (.tmp 6) 28 rfl w.heap.size 52 i0 z0 5 Try.underlying28 hi0 hz0 hz1 .i64 .i64 xs.length xs.length xs.length rfl rfl rfl rfl (by rw [hz2]; omega) (by unfold maxLen; omega) (Nat.le_refl _) ?_; intro w1 hown1 hgrow1)
  have hFH : Hid (FilledL GobR 5 xs w 0 w1) := FilledL.start hown1 hgrow1
  clear hown1 hgrow1 hi0 hz0 hz1 hz2
  go_loopw [4] (fun i wr => ∃ m : Nat, m ≤ xs.length ∧ i = .int .i64 m ∧ Hid (FilledL GobR 5 xs w m wr)) (fun i _ => xs.length - (intOf i).toNat)
  case atStart => exact ⟨0, Nat.zero_le _, rfl, hFH⟩
  case round =>
    obtain ⟨m, hm, rfl, hF⟩ := hrel
    by_cases hlt : m < xs.length
    · obtain ⟨b, off, row, rfl, hbb, hrl, hrr, hrx⟩ := (htH.out wr hF.out.1).at m hlt
      have hlt' : (m : Int) < (xs.length : Int) := by omega
      have hcall := helH.out xs[m] (List.getElem_mem hlt) wr row (Nat.le_trans hbH.out hF.out.1.size) hrx hrl
      have hcallH : Hid (Calls Try.prog 39 #[.agg row.toArray] wr _) := hcall
      have hrrH : Hid (wr.rangeAt b (off + m * 5) row) := hrr
      have hrlH : Hid (row.length = 5) := hrl
      clear hcall hrr hrl hrx
      go_wp2_with (first
        | (refine wpList_load_mid rfl 76 _ rfl b (off + m * 5) (by first | rfl | (simp; done)) row _ hrrH.out Try.underlying76 rfl (by rw [hrlH.out]; exact hldH.out) ?_)
        | (go_at_call 39; refine hcallH.out.mono ?_; rintro e w2 ⟨row', rfl, hl', hone, hx', hb2⟩)
        | (refine wpList_store_mid rfl 52 _ _ rfl w.heap.size (m * 5) row'.toArray (by first | rfl | (simp; done)) (by first | rfl | (simp; done)) (by simpa [hl'] using hF.out.room hlt hb2) (by simpa [hl'] using hstH.out) hone.all ?_))
      go_roundw
      case rel => exact ⟨m + 1, by omega, by go_num, hF.out.next GobR.stable hlt hb2 hl' hx'⟩
      case measure => simp [intOf]; omega
    · have hend := hF.out
      go_wp2
      go_ret
      exact ⟨_, rfl, hend.done GobR.stable (by omega), hend.1⟩

set_option maxRecDepth 1000000 in
set_option maxHeartbeats 4000000 in
theorem toGhp_calls (x : GhpL) (base : Nat) (hy : x.small) : ElemTo 7 6 GhpR base x := by
  intro w row hbase hrx hrl
  have hinf : Hid ((Try.prog.info? 30).map (·.size) = some 6) := by show (Try.prog.info? 30).map (·.size) = some 6; kernel_rfl
  obtain ⟨v0, v1, v2, v4, v5, rfl, h0, h1, h2, h4, h5⟩ := hrx
  have c0H : Hid (∀ W, Below w.heap.size w W → Calls Try.prog 24 #[v0] W fun e w' => ∃ u, e = .returned u ∧ ListAt GobR 5 true W.heap.size w'.heap.size w' u x.objs ∧ Below W.heap.size W w') := fun W hW => toGobS_calls v0 x.objs W base (Nat.le_trans hbase hW.size) (h0.kept GobR.stable (Nat.le_refl _) (Nat.le_refl _) ((Same.below hW).mono (Nat.zero_le _) hbase)) hy.1 (fun z hz => toGob_calls z base (hy.2.2.2.2.2 z hz))
  have c1H : Hid (∀ W, Below w.heap.size w W → Calls Try.prog 25 #[v1] W fun e w' => ∃ u, e = .returned u ∧ ListAt IntR 1 true W.heap.size w'.heap.size w' u x.roots ∧ Below W.heap.size W w') := fun W hW => toInts_calls v1 x.roots W base (Nat.le_trans hbase hW.size) (h1.kept IntR.stable (Nat.le_refl _) (Nat.le_refl _) ((Same.below hW).mono (Nat.zero_le _) hbase)) hy.2.1
  have c2H : Hid (∀ W, Below w.heap.size w W → Calls Try.prog 25 #[v2] W fun e w' => ∃ u, e = .returned u ∧ ListAt IntR 1 true W.heap.size w'.heap.size w' u x.queue ∧ Below W.heap.size W w') := fun W hW => toInts_calls v2 x.queue W base (Nat.le_trans hbase hW.size) (h2.kept IntR.stable (Nat.le_refl _) (Nat.le_refl _) ((Same.below hW).mono (Nat.zero_le _) hbase)) hy.2.2.1
  have c4H : Hid (∀ W, Below w.heap.size w W → Calls Try.prog 25 #[v4] W fun e w' => ∃ u, e = .returned u ∧ ListAt IntR 1 true W.heap.size w'.heap.size w' u x.tops ∧ Below W.heap.size W w') := fun W hW => toInts_calls v4 x.tops W base (Nat.le_trans hbase hW.size) (h4.kept IntR.stable (Nat.le_refl _) (Nat.le_refl _) ((Same.below hW).mono (Nat.zero_le _) hbase)) hy.2.2.2.1
  have c5H : Hid (∀ W, Below w.heap.size w W → Calls Try.prog 25 #[v5] W fun e w' => ∃ u, e = .returned u ∧ ListAt IntR 1 true W.heap.size w'.heap.size w' u x.dirty ∧ Below W.heap.size W w') := fun W hW => toInts_calls v5 x.dirty W base (Nat.le_trans hbase hW.size) (h5.kept IntR.stable (Nat.le_refl _) (Nat.le_refl _) ((Same.below hW).mono (Nat.zero_le _) hbase)) hy.2.2.2.2.1
  obtain ⟨a0, n0, rfl⟩ := h0.form
  obtain ⟨len0, hlen0⟩ : ∃ n, n = (x.objs).length := ⟨_, rfl⟩
  have hlen0H : Hid (len0 = (x.objs).length) := hlen0
  rw [← hlen0] at c0H ⊢
  obtain ⟨a1, n1, rfl⟩ := h1.form
  obtain ⟨len1, hlen1⟩ : ∃ n, n = (x.roots).length := ⟨_, rfl⟩
  have hlen1H : Hid (len1 = (x.roots).length) := hlen1
  rw [← hlen1] at c1H ⊢
  obtain ⟨a2, n2, rfl⟩ := h2.form
  obtain ⟨len2, hlen2⟩ : ∃ n, n = (x.queue).length := ⟨_, rfl⟩
  have hlen2H : Hid (len2 = (x.queue).length) := hlen2
  rw [← hlen2] at c2H ⊢
  obtain ⟨a4, n4, rfl⟩ := h4.form
  obtain ⟨len4, hlen4⟩ : ∃ n, n = (x.tops).length := ⟨_, rfl⟩
  have hlen4H : Hid (len4 = (x.tops).length) := hlen4
  rw [← hlen4] at c4H ⊢
  obtain ⟨a5, n5, rfl⟩ := h5.form
  obtain ⟨len5, hlen5⟩ : ∃ n, n = (x.dirty).length := ⟨_, rfl⟩
  have hlen5H : Hid (len5 = (x.dirty).length) := hlen5
  rw [← hlen5] at c5H ⊢
  clear hrl hbase h0 h1 h2 h4 h5 hlen0 hlen1 hlen2 hlen4 hlen5
  go_enter Try.func7, Try.ntmps7
  go_wp2_with fail
  obtain ⟨W0, hW0⟩ : ∃ W : World, W = ((w.alloc (.cells #[.slice a0 len0 n0, .slice a1 len1 n1, .slice a2 len2 n2, .int .i64 x.from_, .slice a4 len4 n4, .slice a5 len5 n5] 25)).alloc (.cells #[.slice none 0 0, .slice none 0 0, .slice none 0 0, .int .i64 0, .slice none 0 0, .slice none 0 0] 30)).alloc (.cells #[.slice none 0 0, .slice none 0 0, .slice none 0 0, .int .i64 0, .slice none 0 0, .slice none 0 0] 30) := ⟨_, rfl⟩
  rw [← hW0]
  have r0 : Hid (Rec3 w W0 6 [.slice a0 len0 n0, .slice a1 len1 n1, .slice a2 len2 n2, .int .i64 x.from_, .slice a4 len4 n4, .slice a5 len5 n5] [.slice none 0 0, .slice none 0 0, .slice none 0 0, .int .i64 0, .slice none 0 0, .slice none 0 0]) := Rec3.start hW0 rfl rfl
  clear hW0
  refine (c0H.out W0 r0.out.hb).mono ?_
  rintro e w1 ⟨u0, rfl, g0, hb1⟩
  obtain ⟨b0, m0, rfl⟩ := g0.form
  rw [← hlen0H.out] at g0 ⊢
  have rc1 : Hid (Rec3 w w1 6 [.slice a0 len0 n0, .slice a1 len1 n1, .slice a2 len2 n2, .int .i64 x.from_, .slice a4 len4 n4, .slice a5 len5 n5] [.slice none 0 0, .slice none 0 0, .slice none 0 0, .int .i64 0, .slice none 0 0, .slice none 0 0]) := r0.out.call hb1
  have g0H : Hid (ListAt GobR 5 true (w.heap.size + 3) w1.heap.size w1 (.slice b0 len0 m0) x.objs) := g0.kept GobR.stable r0.out.sz (Nat.le_refl _) (Same.refl _ _ _)
  have xi1_1 := rc1.out.cellI 1 _ rfl
  obtain ⟨⟨q1_0, xo1_0⟩, xf1_0⟩ := rc1.out.cellO 0 (by omega)
  clear g0 hb1
  have r1 : Hid (Rec3 w (w1.setCell ⟨w.heap.size + 1 + 1, 0, none⟩ (.slice b0 len0 m0)) 6 [.slice a0 len0 n0, .slice a1 len1 n1, .slice a2 len2 n2, .int .i64 x.from_, .slice a4 len4 n4, .slice a5 len5 n5] [.slice b0 len0 m0, .slice none 0 0, .slice none 0 0, .int .i64 0, .slice none 0 0, .slice none 0 0]) := (rc1.out.set 0 (.slice b0 len0 m0) (by omega) rfl)
  have g0H : Hid (ListAt GobR 5 true (w.heap.size + 3) (w1.setCell ⟨w.heap.size + 1 + 1, 0, none⟩ (.slice b0 len0 m0)).heap.size (w1.setCell ⟨w.heap.size + 1 + 1, 0, none⟩ (.slice b0 len0 m0)) (.slice b0 len0 m0) x.objs) := g0H.out.kept GobR.stable (Nat.le_refl _) (by simp) (Same.trans (Same.refl _ _ _) (same_setCell _ _ _ _ (.inl (by omega))))
  go_wp2_with fail
  obtain ⟨W1, hW1⟩ : ∃ W : World, W = (w1.setCell ⟨w.heap.size + 1 + 1, 0, none⟩ (.slice b0 len0 m0)) := ⟨_, rfl⟩
  rw [← hW1] at r1 g0H ⊢
  clear hW1 rc1 xi1_1 xo1_0 xf1_0
  refine (c1H.out W1 r1.out.hb).mono ?_
  rintro e w2 ⟨u1, rfl, g1, hb2⟩
  obtain ⟨b1, m1, rfl⟩ := g1.form
  rw [← hlen1H.out] at g1 ⊢
  have rc2 : Hid (Rec3 w w2 6 [.slice a0 len0 n0, .slice a1 len1 n1, .slice a2 len2 n2, .int .i64 x.from_, .slice a4 len4 n4, .slice a5 len5 n5] [.slice b0 len0 m0, .slice none 0 0, .slice none 0 0, .int .i64 0, .slice none 0 0, .slice none 0 0]) := r1.out.call hb2
  have g1H : Hid (ListAt IntR 1 true (w.heap.size + 3) w2.heap.size w2 (.slice b1 len1 m1) x.roots) := g1.kept IntR.stable r1.out.sz (Nat.le_refl _) (Same.refl _ _ _)
  have g0H : Hid (ListAt GobR 5 true (w.heap.size + 3) w2.heap.size w2 (.slice b0 len0 m0) x.objs) := g0H.out.kept GobR.stable (Nat.le_refl _) hb2.size ((Same.below hb2).mono (Nat.zero_le _) (Nat.le_refl _))
  have xi2_2 := rc2.out.cellI 2 _ rfl
  obtain ⟨⟨q2_1, xo2_1⟩, xf2_1⟩ := rc2.out.cellO 1 (by omega)
  clear g1 hb2
  have r2 : Hid (Rec3 w (w2.setCell ⟨w.heap.size + 1 + 1, 1, none⟩ (.slice b1 len1 m1)) 6 [.slice a0 len0 n0, .slice a1 len1 n1, .slice a2 len2 n2, .int .i64 x.from_, .slice a4 len4 n4, .slice a5 len5 n5] [.slice b0 len0 m0, .slice b1 len1 m1, .slice none 0 0, .int .i64 0, .slice none 0 0, .slice none 0 0]) := (rc2.out.set 1 (.slice b1 len1 m1) (by omega) rfl)
  have g0H : Hid (ListAt GobR 5 true (w.heap.size + 3) (w2.setCell ⟨w.heap.size + 1 + 1, 1, none⟩ (.slice b1 len1 m1)).heap.size (w2.setCell ⟨w.heap.size + 1 + 1, 1, none⟩ (.slice b1 len1 m1)) (.slice b0 len0 m0) x.objs) := g0H.out.kept GobR.stable (Nat.le_refl _) (by simp) (Same.trans (Same.refl _ _ _) (same_setCell _ _ _ _ (.inl (by omega))))
  have g1H : Hid (ListAt IntR 1 true (w.heap.size + 3) (w2.setCell ⟨w.heap.size + 1 + 1, 1, none⟩ (.slice b1 len1 m1)).heap.size (w2.setCell ⟨w.heap.size + 1 + 1, 1, none⟩ (.slice b1 len1 m1)) (.slice b1 len1 m1) x.roots) := g1H.out.kept IntR.stable (Nat.le_refl _) (by simp) (Same.trans (Same.refl _ _ _) (same_setCell _ _ _ _ (.inl (by omega))))
  go_wp2_with fail
  obtain ⟨W2, hW2⟩ : ∃ W : World, W = (w2.setCell ⟨w.heap.size + 1 + 1, 1, none⟩ (.slice b1 len1 m1)) := ⟨_, rfl⟩
  rw [← hW2] at r2 g0H g1H ⊢
  clear hW2 rc2 xi2_2 xo2_1 xf2_1
  refine (c2H.out W2 r2.out.hb).mono ?_
  rintro e w3 ⟨u2, rfl, g2, hb3⟩
  obtain ⟨b2, m2, rfl⟩ := g2.form
  rw [← hlen2H.out] at g2 ⊢
  have rc3 : Hid (Rec3 w w3 6 [.slice a0 len0 n0, .slice a1 len1 n1, .slice a2 len2 n2, .int .i64 x.from_, .slice a4 len4 n4, .slice a5 len5 n5] [.slice b0 len0 m0, .slice b1 len1 m1, .slice none 0 0, .int .i64 0, .slice none 0 0, .slice none 0 0]) := r2.out.call hb3
  have g2H : Hid (ListAt IntR 1 true (w.heap.size + 3) w3.heap.size w3 (.slice b2 len2 m2) x.queue) := g2.kept IntR.stable r2.out.sz (Nat.le_refl _) (Same.refl _ _ _)
  have g0H : Hid (ListAt GobR 5 true (w.heap.size + 3) w3.heap.size w3 (.slice b0 len0 m0) x.objs) := g0H.out.kept GobR.stable (Nat.le_refl _) hb3.size ((Same.below hb3).mono (Nat.zero_le _) (Nat.le_refl _))
  have g1H : Hid (ListAt IntR 1 true (w.heap.size + 3) w3.heap.size w3 (.slice b1 len1 m1) x.roots) := g1H.out.kept IntR.stable (Nat.le_refl _) hb3.size ((Same.below hb3).mono (Nat.zero_le _) (Nat.le_refl _))
  have xi3_3 := rc3.out.cellI 3 _ rfl
  have xi3_4 := rc3.out.cellI 4 _ rfl
  obtain ⟨⟨q3_2, xo3_2⟩, xf3_2⟩ := rc3.out.cellO 2 (by omega)
  obtain ⟨⟨q3_3, xo3_3⟩, xf3_3⟩ := rc3.out.cellO 3 (by omega)
  clear g2 hb3
  have r3 : Hid (Rec3 w ((w3.setCell ⟨w.heap.size + 1 + 1, 2, none⟩ (.slice b2 len2 m2)).setCell ⟨w.heap.size + 1 + 1, 3, none⟩ (.int .i64 x.from_)) 6 [.slice a0 len0 n0, .slice a1 len1 n1, .slice a2 len2 n2, .int .i64 x.from_, .slice a4 len4 n4, .slice a5 len5 n5] [.slice b0 len0 m0, .slice b1 len1 m1, .slice b2 len2 m2, .int .i64 x.from_, .slice none 0 0, .slice none 0 0]) := ((rc3.out.set 2 (.slice b2 len2 m2) (by omega) rfl).set 3 (.int .i64 x.from_) (by omega) rfl)
  have g0H : Hid (ListAt GobR 5 true (w.heap.size + 3) ((w3.setCell ⟨w.heap.size + 1 + 1, 2, none⟩ (.slice b2 len2 m2)).setCell ⟨w.heap.size + 1 + 1, 3, none⟩ (.int .i64 x.from_)).heap.size ((w3.setCell ⟨w.heap.size + 1 + 1, 2, none⟩ (.slice b2 len2 m2)).setCell ⟨w.heap.size + 1 + 1, 3, none⟩ (.int .i64 x.from_)) (.slice b0 len0 m0) x.objs) := g0H.out.kept GobR.stable (Nat.le_refl _) (by simp) (Same.trans ((Same.trans (Same.refl _ _ _) (same_setCell _ _ _ _ (.inl (by omega))))) (same_setCell _ _ _ _ (.inl (by omega))))
  have g1H : Hid (ListAt IntR 1 true (w.heap.size + 3) ((w3.setCell ⟨w.heap.size + 1 + 1, 2, none⟩ (.slice b2 len2 m2)).setCell ⟨w.heap.size + 1 + 1, 3, none⟩ (.int .i64 x.from_)).heap.size ((w3.setCell ⟨w.heap.size + 1 + 1, 2, none⟩ (.slice b2 len2 m2)).setCell ⟨w.heap.size + 1 + 1, 3, none⟩ (.int .i64 x.from_)) (.slice b1 len1 m1) x.roots) := g1H.out.kept IntR.stable (Nat.le_refl _) (by simp) (Same.trans ((Same.trans (Same.refl _ _ _) (same_setCell _ _ _ _ (.inl (by omega))))) (same_setCell _ _ _ _ (.inl (by omega))))
  have g2H : Hid (ListAt IntR 1 true (w.heap.size + 3) ((w3.setCell ⟨w.heap.size + 1 + 1, 2, none⟩ (.slice b2 len2 m2)).setCell ⟨w.heap.size + 1 + 1, 3, none⟩ (.int .i64 x.from_)).heap.size ((w3.setCell ⟨w.heap.size + 1 + 1, 2, none⟩ (.slice b2 len2 m2)).setCell ⟨w.heap.size + 1 + 1, 3, none⟩ (.int .i64 x.from_)) (.slice b2 len2 m2) x.queue) := g2H.out.kept IntR.stable (Nat.le_refl _) (by simp) (Same.trans ((Same.trans (Same.refl _ _ _) (same_setCell _ _ _ _ (.inl (by omega))))) (same_setCell _ _ _ _ (.inl (by omega))))
  go_wp2_with fail
  obtain ⟨W3, hW3⟩ : ∃ W : World, W = ((w3.setCell ⟨w.heap.size + 1 + 1, 2, none⟩ (.slice b2 len2 m2)).setCell ⟨w.heap.size + 1 + 1, 3, none⟩ (.int .i64 x.from_)) := ⟨_, rfl⟩
  rw [← hW3] at r3 g0H g1H g2H ⊢
  clear hW3 rc3 xi3_3 xi3_4 xo3_2 xf3_2 xo3_3 xf3_3
  refine (c4H.out W3 r3.out.hb).mono ?_
  rintro e w4 ⟨u4, rfl, g4, hb4⟩
  obtain ⟨b4, m4, rfl⟩ := g4.form
  rw [← hlen4H.out] at g4 ⊢
  have rc4 : Hid (Rec3 w w4 6 [.slice a0 len0 n0, .slice a1 len1 n1, .slice a2 len2 n2, .int .i64 x.from_, .slice a4 len4 n4, .slice a5 len5 n5] [.slice b0 len0 m0, .slice b1 len1 m1, .slice b2 len2 m2, .int .i64 x.from_, .slice none 0 0, .slice none 0 0]) := r3.out.call hb4
  have g4H : Hid (ListAt IntR 1 true (w.heap.size + 3) w4.heap.size w4 (.slice b4 len4 m4) x.tops) := g4.kept IntR.stable r3.out.sz (Nat.le_refl _) (Same.refl _ _ _)
  have g0H : Hid (ListAt GobR 5 true (w.heap.size + 3) w4.heap.size w4 (.slice b0 len0 m0) x.objs) := g0H.out.kept GobR.stable (Nat.le_refl _) hb4.size ((Same.below hb4).mono (Nat.zero_le _) (Nat.le_refl _))
  have g1H : Hid (ListAt IntR 1 true (w.heap.size + 3) w4.heap.size w4 (.slice b1 len1 m1) x.roots) := g1H.out.kept IntR.stable (Nat.le_refl _) hb4.size ((Same.below hb4).mono (Nat.zero_le _) (Nat.le_refl _))
  have g2H : Hid (ListAt IntR 1 true (w.heap.size + 3) w4.heap.size w4 (.slice b2 len2 m2) x.queue) := g2H.out.kept IntR.stable (Nat.le_refl _) hb4.size ((Same.below hb4).mono (Nat.zero_le _) (Nat.le_refl _))
  have xi4_5 := rc4.out.cellI 5 _ rfl
  obtain ⟨⟨q4_4, xo4_4⟩, xf4_4⟩ := rc4.out.cellO 4 (by omega)
  clear g4 hb4
  have r4 : Hid (Rec3 w (w4.setCell ⟨w.heap.size + 1 + 1, 4, none⟩ (.slice b4 len4 m4)) 6 [.slice a0 len0 n0, .slice a1 len1 n1, .slice a2 len2 n2, .int .i64 x.from_, .slice a4 len4 n4, .slice a5 len5 n5] [.slice b0 len0 m0, .slice b1 len1 m1, .slice b2 len2 m2, .int .i64 x.from_, .slice b4 len4 m4, .slice none 0 0]) := (rc4.out.set 4 (.slice b4 len4 m4) (by omega) rfl)
  have g0H : Hid (ListAt GobR 5 true (w.heap.size + 3) (w4.setCell ⟨w.heap.size + 1 + 1, 4, none⟩ (.slice b4 len4 m4)).heap.size (w4.setCell ⟨w.heap.size + 1 + 1, 4, none⟩ (.slice b4 len4 m4)) (.slice b0 len0 m0) x.objs) := g0H.out.kept GobR.stable (Nat.le_refl _) (by simp) (Same.trans (Same.refl _ _ _) (same_setCell _ _ _ _ (.inl (by omega))))
  have g1H : Hid (ListAt IntR 1 true (w.heap.size + 3) (w4.setCell ⟨w.heap.size + 1 + 1, 4, none⟩ (.slice b4 len4 m4)).heap.size (w4.setCell ⟨w.heap.size + 1 + 1, 4, none⟩ (.slice b4 len4 m4)) (.slice b1 len1 m1) x.roots) := g1H.out.kept IntR.stable (Nat.le_refl _) (by simp) (Same.trans (Same.refl _ _ _) (same_setCell _ _ _ _ (.inl (by omega))))
  have g2H : Hid (ListAt IntR 1 true (w.heap.size + 3) (w4.setCell ⟨w.heap.size + 1 + 1, 4, none⟩ (.slice b4 len4 m4)).heap.size (w4.setCell ⟨w.heap.size + 1 + 1, 4, none⟩ (.slice b4 len4 m4)) (.slice b2 len2 m2) x.queue) := g2H.out.kept IntR.stable (Nat.le_refl _) (by simp) (Same.trans (Same.refl _ _ _) (same_setCell _ _ _ _ (.inl (by omega))))
  have g4H : Hid (ListAt IntR 1 true (w.heap.size + 3) (w4.setCell ⟨w.heap.size + 1 + 1, 4, none⟩ (.slice b4 len4 m4)).heap.size (w4.setCell ⟨w.heap.size + 1 + 1, 4, none⟩ (.slice b4 len4 m4)) (.slice b4 len4 m4) x.tops) := g4H.out.kept IntR.stable (Nat.le_refl _) (by simp) (Same.trans (Same.refl _ _ _) (same_setCell _ _ _ _ (.inl (by omega))))
  go_wp2_with fail
  obtain ⟨W4, hW4⟩ : ∃ W : World, W = (w4.setCell ⟨w.heap.size + 1 + 1, 4, none⟩ (.slice b4 len4 m4)) := ⟨_, rfl⟩
  rw [← hW4] at r4 g0H g1H g2H g4H ⊢
  clear hW4 rc4 xi4_5 xo4_4 xf4_4
  refine (c5H.out W4 r4.out.hb).mono ?_
  rintro e w5 ⟨u5, rfl, g5, hb5⟩
  obtain ⟨b5, m5, rfl⟩ := g5.form
  rw [← hlen5H.out] at g5 ⊢
  have rc5 : Hid (Rec3 w w5 6 [.slice a0 len0 n0, .slice a1 len1 n1, .slice a2 len2 n2, .int .i64 x.from_, .slice a4 len4 n4, .slice a5 len5 n5] [.slice b0 len0 m0, .slice b1 len1 m1, .slice b2 len2 m2, .int .i64 x.from_, .slice b4 len4 m4, .slice none 0 0]) := r4.out.call hb5
  have g5H : Hid (ListAt IntR 1 true (w.heap.size + 3) w5.heap.size w5 (.slice b5 len5 m5) x.dirty) := g5.kept IntR.stable r4.out.sz (Nat.le_refl _) (Same.refl _ _ _)
  have g0H : Hid (ListAt GobR 5 true (w.heap.size + 3) w5.heap.size w5 (.slice b0 len0 m0) x.objs) := g0H.out.kept GobR.stable (Nat.le_refl _) hb5.size ((Same.below hb5).mono (Nat.zero_le _) (Nat.le_refl _))
  have g1H : Hid (ListAt IntR 1 true (w.heap.size + 3) w5.heap.size w5 (.slice b1 len1 m1) x.roots) := g1H.out.kept IntR.stable (Nat.le_refl _) hb5.size ((Same.below hb5).mono (Nat.zero_le _) (Nat.le_refl _))
  have g2H : Hid (ListAt IntR 1 true (w.heap.size + 3) w5.heap.size w5 (.slice b2 len2 m2) x.queue) := g2H.out.kept IntR.stable (Nat.le_refl _) hb5.size ((Same.below hb5).mono (Nat.zero_le _) (Nat.le_refl _))
  have g4H : Hid (ListAt IntR 1 true (w.heap.size + 3) w5.heap.size w5 (.slice b4 len4 m4) x.tops) := g4H.out.kept IntR.stable (Nat.le_refl _) hb5.size ((Same.below hb5).mono (Nat.zero_le _) (Nat.le_refl _))
  obtain ⟨⟨q5_5, xo5_5⟩, xf5_5⟩ := rc5.out.cellO 5 (by omega)
  clear g5 hb5
  have r5 : Hid (Rec3 w (w5.setCell ⟨w.heap.size + 1 + 1, 5, none⟩ (.slice b5 len5 m5)) 6 [.slice a0 len0 n0, .slice a1 len1 n1, .slice a2 len2 n2, .int .i64 x.from_, .slice a4 len4 n4, .slice a5 len5 n5] [.slice b0 len0 m0, .slice b1 len1 m1, .slice b2 len2 m2, .int .i64 x.from_, .slice b4 len4 m4, .slice b5 len5 m5]) := (rc5.out.set 5 (.slice b5 len5 m5) (by omega) rfl)
  have g0H : Hid (ListAt GobR 5 true (w.heap.size + 3) (w5.setCell ⟨w.heap.size + 1 + 1, 5, none⟩ (.slice b5 len5 m5)).heap.size (w5.setCell ⟨w.heap.size + 1 + 1, 5, none⟩ (.slice b5 len5 m5)) (.slice b0 len0 m0) x.objs) := g0H.out.kept GobR.stable (Nat.le_refl _) (by simp) (Same.trans (Same.refl _ _ _) (same_setCell _ _ _ _ (.inl (by omega))))
  have g1H : Hid (ListAt IntR 1 true (w.heap.size + 3) (w5.setCell ⟨w.heap.size + 1 + 1, 5, none⟩ (.slice b5 len5 m5)).heap.size (w5.setCell ⟨w.heap.size + 1 + 1, 5, none⟩ (.slice b5 len5 m5)) (.slice b1 len1 m1) x.roots) := g1H.out.kept IntR.stable (Nat.le_refl _) (by simp) (Same.trans (Same.refl _ _ _) (same_setCell _ _ _ _ (.inl (by omega))))
  have g2H : Hid (ListAt IntR 1 true (w.heap.size + 3) (w5.setCell ⟨w.heap.size + 1 + 1, 5, none⟩ (.slice b5 len5 m5)).heap.size (w5.setCell ⟨w.heap.size + 1 + 1, 5, none⟩ (.slice b5 len5 m5)) (.slice b2 len2 m2) x.queue) := g2H.out.kept IntR.stable (Nat.le_refl _) (by simp) (Same.trans (Same.refl _ _ _) (same_setCell _ _ _ _ (.inl (by omega))))
  have g4H : Hid (ListAt IntR 1 true (w.heap.size + 3) (w5.setCell ⟨w.heap.size + 1 + 1, 5, none⟩ (.slice b5 len5 m5)).heap.size (w5.setCell ⟨w.heap.size + 1 + 1, 5, none⟩ (.slice b5 len5 m5)) (.slice b4 len4 m4) x.tops) := g4H.out.kept IntR.stable (Nat.le_refl _) (by simp) (Same.trans (Same.refl _ _ _) (same_setCell _ _ _ _ (.inl (by omega))))
  have g5H : Hid (ListAt IntR 1 true (w.heap.size + 3) (w5.setCell ⟨w.heap.size + 1 + 1, 5, none⟩ (.slice b5 len5 m5)).heap.size (w5.setCell ⟨w.heap.size + 1 + 1, 5, none⟩ (.slice b5 len5 m5)) (.slice b5 len5 m5) x.dirty) := g5H.out.kept IntR.stable (Nat.le_refl _) (by simp) (Same.trans (Same.refl _ _ _) (same_setCell _ _ _ _ (.inl (by omega))))
  go_wp2_with (first | (refine wpList_load_mid rfl 30 _ rfl (w.heap.size + 1 + 1) 0 rfl [.slice b0 len0 m0, .slice b1 len1 m1, .slice b2 len2 m2, .int .i64 x.from_, .slice b4 len4 m4, .slice b5 len5 m5] _ r5.out.o Try.underlying30 rfl hinf.out ?_) | (refine wpList_store_mid rfl 30 _ _ rfl (w.heap.size + 1) 0 #[.slice b0 len0 m0, .slice b1 len1 m1, .slice b2 len2 m2, .int .i64 x.from_, .slice b4 len4 m4, .slice b5 len5 m5] rfl rfl r5.out.z hinf.out (OneCells.all (row := [.slice b0 len0 m0, .slice b1 len1 m1, .slice b2 len2 m2, .int .i64 x.from_, .slice b4 len4 m4, .slice b5 len5 m5]) rfl) ?_))
  refine bodyPost_ret (v := .agg #[.slice b0 len0 m0, .slice b1 len1 m1, .slice b2 len2 m2, .int .i64 x.from_, .slice b4 len4 m4, .slice b5 len5 m5]) (results_cell_mid rfl _ _ (w.heap.size + 1) [.slice b0 len0 m0, .slice b1 len1 m1, .slice b2 len2 m2, .int .i64 x.from_, .slice b4 len4 m4, .slice b5 len5 m5] _ rfl (World.rangeAt_setCells_same _ _ _ _ r5.out.z) Try.underlying30 rfl hinf.out) rfl ⟨[.slice b0 len0 m0, .slice b1 len1 m1, .slice b2 len2 m2, .int .i64 x.from_, .slice b4 len4 m4, .slice b5 len5 m5], rfl, rfl, rfl, ⟨_, _, _, _, _, rfl, ?_, ?_, ?_, ?_, ?_⟩, below_setCells _ (by omega) _ _ _ r5.out.hb⟩
  · exact g0H.out.kept GobR.stable (by omega) (by rw [size_setCells]; exact Nat.le_refl _) (Same.setCells _ _ _ _ (.inl (by omega)))
  · exact g1H.out.kept IntR.stable (by omega) (by rw [size_setCells]; exact Nat.le_refl _) (Same.setCells _ _ _ _ (.inl (by omega)))
  · exact g2H.out.kept IntR.stable (by omega) (by rw [size_setCells]; exact Nat.le_refl _) (Same.setCells _ _ _ _ (.inl (by omega)))
  · exact g4H.out.kept IntR.stable (by omega) (by rw [size_setCells]; exact Nat.le_refl _) (Same.setCells _ _ _ _ (.inl (by omega)))
  · exact g5H.out.kept IntR.stable (by omega) (by rw [size_setCells]; exact Nat.le_refl _) (Same.setCells _ _ _ _ (.inl (by omega)))
end Go.Proofs.Ytedpocgmfpaeeaa
