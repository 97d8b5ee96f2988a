/- Heaps of the marker: copies. -/
import Derived.Test.YtedpocgmfpaeeaaGlA
namespace Go.Proofs.Ytedpocgmfpaeeaa
set_option linter.unusedVariables false
open Go.ChangeShapes Go.WideShapes Go.ChangeAt Go.RowKit

structure MobL where
  id : Int
  flds : List Int
  colour : Int
structure MhpL where
  objs : List MobL
  roots : List Int
  cycle : Bool
  row_ : List Int
def MobR : Rd MobL := fun own lo hi w row x => ∃ v, row = [.int .i64 x.id, v, .int .i64 x.colour] ∧ ListAt IntR 1 own lo hi w v x.flds
theorem MobR.stable : Stable MobR := fun _ _ _ _ _ _ _ _ _ ⟨v, hv, hx⟩ h1 h2 hs => ⟨v, hv, hx.kept IntR.stable h1 h2 hs⟩
def MhpR : Rd MhpL := fun own lo hi w row x => ∃ v0 v1 v3, row = [v0, v1, .bool x.cycle, v3] ∧ ListAt MobR 3 own lo hi w v0 x.objs ∧ ListAt IntR 1 own lo hi w v1 x.roots ∧ ListAt IntR 1 own lo hi w v3 x.row_
theorem MhpR.stable : Stable MhpR := fun _ _ _ _ _ _ _ _ _ ⟨v0, v1, v3, hv, h0, h1', h3⟩ h1 h2 hs => ⟨v0, v1, v3, hv, h0.kept MobR.stable h1 h2 hs, h1'.kept IntR.stable h1 h2 hs, h3.kept IntR.stable h1 h2 hs⟩
def MobL.small (x : MobL) : Prop := x.flds.length ≤ 1048576
def MhpL.small (x : MhpL) : Prop := x.objs.length ≤ 1048576 ∧ x.roots.length ≤ 1048576 ∧ x.row_.length ≤ 1048576 ∧ ∀ y ∈ x.objs, y.small

theorem elemT69 : ∃ i z, Try.prog.info? 69 = some i ∧ i.zero = some z ∧ i.size = 3 ∧ i.bytes = 40 := by
  obtain ⟨i0, hi0⟩ : ∃ i, Try.prog.info? 69 = some i := Option.isSome_iff_exists.1 (by kernel_rfl)
  obtain ⟨z, hz⟩ : ∃ z, (Try.prog.info? 69).bind (·.zero) = some z := Option.isSome_iff_exists.1 (by kernel_rfl)
  refine ⟨i0, z, hi0, ?_, ?_, ?_⟩
  · rw [hi0] at hz; exact hz
  · have : (Try.prog.info? 69).map (·.size) = some 3 := by kernel_rfl
    rw [hi0] at this; exact Option.some.inj this
  · have : (Try.prog.info? 69).map (·.bytes) = some 40 := by kernel_rfl
    rw [hi0] at this; exact Option.some.inj this

set_option maxRecDepth 1000000 in
set_option maxHeartbeats 4000000 in
theorem toMob_calls (x : MobL) (base : Nat) (hy : x.small) : ElemTo 46 3 MobR base x := by
  intro w row hbase hrx hrl
  have hinf : Hid ((Try.prog.info? 69).map (·.size) = some 3) := by show (Try.prog.info? 69).map (·.size) = some 3; kernel_rfl
  obtain ⟨v1, rfl, h1⟩ := hrx
  have c1H : Hid (∀ W, Below w.heap.size w W → Calls Try.prog 25 #[v1] W fun e w' => ∃ u, e = .returned u ∧ ListAt IntR 1 true W.heap.size w'.heap.size w' u x.flds ∧ Below W.heap.size W w') := fun W hW => toInts_calls v1 x.flds W base (Nat.le_trans hbase hW.size) (h1.kept IntR.stable (Nat.le_refl _) (Nat.le_refl _) ((Same.below hW).mono (Nat.zero_le _) hbase)) hy
  obtain ⟨a1, n1, rfl⟩ := h1.form
  obtain ⟨len1, hlen1⟩ : ∃ n, n = (x.flds).length := ⟨_, rfl⟩
  have hlen1H : Hid (len1 = (x.flds).length) := hlen1
  rw [← hlen1] at c1H ⊢
  clear hrl hbase h1 hlen1
  go_enter Try.func46, Try.ntmps46
  go_wp2_with fail
  obtain ⟨W0, hW0⟩ : ∃ W : World, W = ((w.alloc (.cells #[.int .i64 x.id, .slice a1 len1 n1, .int .i64 x.colour] 86)).alloc (.cells #[.int .i64 0, .slice none 0 0, .int .i64 0] 69)).alloc (.cells #[.int .i64 x.id, .slice none 0 0, .int .i64 0] 69) := ⟨_, rfl⟩
  rw [← hW0]
  have r0 : Hid (Rec3 w W0 3 [.int .i64 x.id, .slice a1 len1 n1, .int .i64 x.colour] [.int .i64 x.id, .slice none 0 0, .int .i64 0]) := Rec3.start hW0 rfl rfl
  clear hW0
  refine (c1H.out W0 r0.out.hb).mono ?_
  rintro e w1 ⟨u1, rfl, g1, hb1⟩
  obtain ⟨b1, m1, rfl⟩ := g1.form
  rw [← hlen1H.out] at g1 ⊢
  have rc1 : Hid (Rec3 w w1 3 [.int .i64 x.id, .slice a1 len1 n1, .int .i64 x.colour] [.int .i64 x.id, .slice none 0 0, .int .i64 0]) := r0.out.call hb1
  have g1H : Hid (ListAt IntR 1 true (w.heap.size + 3) w1.heap.size w1 (.slice b1 len1 m1) x.flds) := g1.kept IntR.stable r0.out.sz (Nat.le_refl _) (Same.refl _ _ _)
  have xi1_2 := rc1.out.cellI 2 _ rfl
  obtain ⟨⟨q1_1, xo1_1⟩, xf1_1⟩ := rc1.out.cellO 1 (by omega)
  obtain ⟨⟨q1_2, xo1_2⟩, xf1_2⟩ := rc1.out.cellO 2 (by omega)
  clear g1 hb1
  have r1 : Hid (Rec3 w ((w1.setCell ⟨w.heap.size + 1 + 1, 1, none⟩ (.slice b1 len1 m1)).setCell ⟨w.heap.size + 1 + 1, 2, none⟩ (.int .i64 x.colour)) 3 [.int .i64 x.id, .slice a1 len1 n1, .int .i64 x.colour] [.int .i64 x.id, .slice b1 len1 m1, .int .i64 x.colour]) := ((rc1.out.set 1 (.slice b1 len1 m1) (by omega) rfl).set 2 (.int .i64 x.colour) (by omega) rfl)
  have g1H : Hid (ListAt IntR 1 true (w.heap.size + 3) ((w1.setCell ⟨w.heap.size + 1 + 1, 1, none⟩ (.slice b1 len1 m1)).setCell ⟨w.heap.size + 1 + 1, 2, none⟩ (.int .i64 x.colour)).heap.size ((w1.setCell ⟨w.heap.size + 1 + 1, 1, none⟩ (.slice b1 len1 m1)).setCell ⟨w.heap.size + 1 + 1, 2, none⟩ (.int .i64 x.colour)) (.slice b1 len1 m1) x.flds) := g1H.out.kept IntR.stable (Nat.le_refl _) (by simp) (Same.trans ((Same.trans (Same.refl _ _ _) (same_setCell _ _ _ _ (.inl (by omega))))) (same_setCell _ _ _ _ (.inl (by omega))))
  go_wp2_with (first | (refine wpList_load_mid rfl 69 _ rfl (w.heap.size + 1 + 1) 0 rfl [.int .i64 x.id, .slice b1 len1 m1, .int .i64 x.colour] _ r1.out.o Try.underlying69 rfl hinf.out ?_) | (refine wpList_store_mid rfl 69 _ _ rfl (w.heap.size + 1) 0 #[.int .i64 x.id, .slice b1 len1 m1, .int .i64 x.colour] rfl rfl r1.out.z hinf.out (OneCells.all (row := [.int .i64 x.id, .slice b1 len1 m1, .int .i64 x.colour]) rfl) ?_))
  refine bodyPost_ret (v := .agg #[.int .i64 x.id, .slice b1 len1 m1, .int .i64 x.colour]) (results_cell_mid rfl _ _ (w.heap.size + 1) [.int .i64 x.id, .slice b1 len1 m1, .int .i64 x.colour] _ rfl (World.rangeAt_setCells_same _ _ _ _ r1.out.z) Try.underlying69 rfl hinf.out) rfl ⟨[.int .i64 x.id, .slice b1 len1 m1, .int .i64 x.colour], rfl, rfl, rfl, ⟨_, rfl, ?_⟩, below_setCells _ (by omega) _ _ _ r1.out.hb⟩
  · exact g1H.out.kept IntR.stable (by omega) (by rw [size_setCells]; exact Nat.le_refl _) (Same.setCells _ _ _ _ (.inl (by omega)))

set_option maxRecDepth 1000000 in
set_option maxHeartbeats 1000000 in
theorem toMobS_calls (v : Value) (xs : List MobL) (w : World) (base : Nat) (hbase : base ≤ w.heap.size) (ht : ListAt MobR 3 false 0 base w v xs) (hn : xs.length ≤ 1048576) (hel : ∀ x ∈ xs, ElemTo 46 3 MobR base x) :
    Calls Try.prog 33 #[v] w fun e w' => ∃ u, e = .returned u ∧ ListAt MobR 3 true w.heap.size w'.heap.size w' u xs ∧ Below w.heap.size w w' := by
  obtain ⟨i0, z0, hi0, hz0, hz1, hz2⟩ := elemT69
  have hld : (Try.prog.info? 86).map (·.size) = some 3 := by kernel_rfl
  have hst : (Try.prog.info? 69).map (·.size) = some 3 := by kernel_rfl
  have hldH : Hid ((Try.prog.info? 86).map (·.size) = some 3) := hld
  have hstH : Hid ((Try.prog.info? 69).map (·.size) = some 3) := hst
  clear hld hst
  obtain ⟨a, c, rfl⟩ := ht.form
  have helH : Hid (∀ x ∈ xs, ElemTo 46 3 MobR base x) := hel
  have htH : Hid (∀ wr, Below w.heap.size w wr → ListAt MobR 3 false 0 base wr (.slice a xs.length c) xs) := fun wr hw => ht.kept MobR.stable (Nat.le_refl _) (Nat.le_refl _) ((Same.below hw).mono (Nat.zero_le _) hbase)
  have hbH : Hid (base ≤ w.heap.size) := hbase
  clear ht hel hbase
  go_enter Try.func33, Try.ntmps33
  go_wp2_with (refine wpList_make_full _ rfl (.tmp 6) (.tmp 6) 42 rfl w.heap.size 69 i0 z0 3 Try.underlying42 hi0 hz0 hz1 .i64 .i64 xs.length xs.length xs.length rfl rfl rfl rfl (by rw [hz2]; omega) (by unfold maxLen; omega) (Nat.le_refl _) ?_; intro w1 hown1 hgrow1)
  have hFH : Hid (FilledL MobR 3 xs w 0 w1) := FilledL.start hown1 hgrow1
  clear hown1 hgrow1 hi0 hz0 hz1 hz2
  go_loopw [4] (fun i wr => ∃ m : Nat, m ≤ xs.length ∧ i = .int .i64 m ∧ Hid (FilledL MobR 3 xs w m wr)) (fun i _ => xs.length - (intOf i).toNat)
  case atStart => exact ⟨0, Nat.zero_le _, rfl, hFH⟩
  case round =>
    obtain ⟨m, hm, rfl, hF⟩ := hrel
    by_cases hlt : m < xs.length
    · obtain ⟨b, off, row, rfl, hbb, hrl, hrr, hrx⟩ := (htH.out wr hF.out.1).at m hlt
      have hlt' : (m : Int) < (xs.length : Int) := by omega
      have hcall := helH.out xs[m] (List.getElem_mem hlt) wr row (Nat.le_trans hbH.out hF.out.1.size) hrx hrl
      have hcallH : Hid (Calls Try.prog 46 #[.agg row.toArray] wr _) := hcall
      have hrrH : Hid (wr.rangeAt b (off + m * 3) row) := hrr
      have hrlH : Hid (row.length = 3) := hrl
      clear hcall hrr hrl hrx
      go_wp2_with (first
        | (refine wpList_load_mid rfl 86 _ rfl b (off + m * 3) (by first | rfl | (simp; done)) row _ hrrH.out Try.underlying86 rfl (by rw [hrlH.out]; exact hldH.out) ?_)
        | (go_at_call 46; refine hcallH.out.mono ?_; rintro e w2 ⟨row', rfl, hl', hone, hx', hb2⟩)
        | (refine wpList_store_mid rfl 69 _ _ rfl w.heap.size (m * 3) row'.toArray (by first | rfl | (simp; done)) (by first | rfl | (simp; done)) (by simpa [hl'] using hF.out.room hlt hb2) (by simpa [hl'] using hstH.out) hone.all ?_))
      go_roundw
      case rel => exact ⟨m + 1, by omega, by go_num, hF.out.next MobR.stable hlt hb2 hl' hx'⟩
      case measure => simp [intOf]; omega
    · have hend := hF.out
      go_wp2
      go_ret
      exact ⟨_, rfl, hend.done MobR.stable (by omega), hend.1⟩

set_option maxRecDepth 1000000 in
set_option maxHeartbeats 4000000 in
theorem toMhp_calls (x : MhpL) (base : Nat) (hy : x.small) : ElemTo 16 4 MhpR base x := by
  intro w row hbase hrx hrl
  have hinf : Hid ((Try.prog.info? 44).map (·.size) = some 4) := by show (Try.prog.info? 44).map (·.size) = some 4; kernel_rfl
  obtain ⟨v0, v1, v3, rfl, h0, h1, h3⟩ := hrx
  have c0H : Hid (∀ W, Below w.heap.size w W → Calls Try.prog 33 #[v0] W fun e w' => ∃ u, e = .returned u ∧ ListAt MobR 3 true W.heap.size w'.heap.size w' u x.objs ∧ Below W.heap.size W w') := fun W hW => toMobS_calls v0 x.objs W base (Nat.le_trans hbase hW.size) (h0.kept MobR.stable (Nat.le_refl _) (Nat.le_refl _) ((Same.below hW).mono (Nat.zero_le _) hbase)) hy.1 (fun z hz => toMob_calls z base (hy.2.2.2 z hz))
  have c1H : Hid (∀ W, Below w.heap.size w W → Calls Try.prog 25 #[v1] W fun e w' => ∃ u, e = .returned u ∧ ListAt IntR 1 true W.heap.size w'.heap.size w' u x.roots ∧ Below W.heap.size W w') := fun W hW => toInts_calls v1 x.roots W base (Nat.le_trans hbase hW.size) (h1.kept IntR.stable (Nat.le_refl _) (Nat.le_refl _) ((Same.below hW).mono (Nat.zero_le _) hbase)) hy.2.1
  have c3H : Hid (∀ W, Below w.heap.size w W → Calls Try.prog 25 #[v3] W fun e w' => ∃ u, e = .returned u ∧ ListAt IntR 1 true W.heap.size w'.heap.size w' u x.row_ ∧ Below W.heap.size W w') := fun W hW => toInts_calls v3 x.row_ W base (Nat.le_trans hbase hW.size) (h3.kept IntR.stable (Nat.le_refl _) (Nat.le_refl _) ((Same.below hW).mono (Nat.zero_le _) hbase)) hy.2.2.1
  obtain ⟨a0, n0, rfl⟩ := h0.form
  obtain ⟨len0, hlen0⟩ : ∃ n, n = (x.objs).length := ⟨_, rfl⟩
  have hlen0H : Hid (len0 = (x.objs).length) := hlen0
  rw [← hlen0] at c0H ⊢
  obtain ⟨a1, n1, rfl⟩ := h1.form
  obtain ⟨len1, hlen1⟩ : ∃ n, n = (x.roots).length := ⟨_, rfl⟩
  have hlen1H : Hid (len1 = (x.roots).length) := hlen1
  rw [← hlen1] at c1H ⊢
  obtain ⟨a3, n3, rfl⟩ := h3.form
  obtain ⟨len3, hlen3⟩ : ∃ n, n = (x.row_).length := ⟨_, rfl⟩
  have hlen3H : Hid (len3 = (x.row_).length) := hlen3
  rw [← hlen3] at c3H ⊢
  clear hrl hbase h0 h1 h3 hlen0 hlen1 hlen3
  go_enter Try.func16, Try.ntmps16
  go_wp2_with fail
  obtain ⟨W0, hW0⟩ : ∃ W : World, W = ((w.alloc (.cells #[.slice a0 len0 n0, .slice a1 len1 n1, .bool x.cycle, .slice a3 len3 n3] 39)).alloc (.cells #[.slice none 0 0, .slice none 0 0, .bool false, .slice none 0 0] 44)).alloc (.cells #[.slice none 0 0, .slice none 0 0, .bool false, .slice none 0 0] 44) := ⟨_, rfl⟩
  rw [← hW0]
  have r0 : Hid (Rec3 w W0 4 [.slice a0 len0 n0, .slice a1 len1 n1, .bool x.cycle, .slice a3 len3 n3] [.slice none 0 0, .slice none 0 0, .bool false, .slice none 0 0]) := Rec3.start hW0 rfl rfl
  clear hW0
  refine (c0H.out W0 r0.out.hb).mono ?_
  rintro e w1 ⟨u0, rfl, g0, hb1⟩
  obtain ⟨b0, m0, rfl⟩ := g0.form
  rw [← hlen0H.out] at g0 ⊢
  have rc1 : Hid (Rec3 w w1 4 [.slice a0 len0 n0, .slice a1 len1 n1, .bool x.cycle, .slice a3 len3 n3] [.slice none 0 0, .slice none 0 0, .bool false, .slice none 0 0]) := r0.out.call hb1
  have g0H : Hid (ListAt MobR 3 true (w.heap.size + 3) w1.heap.size w1 (.slice b0 len0 m0) x.objs) := g0.kept MobR.stable r0.out.sz (Nat.le_refl _) (Same.refl _ _ _)
  have xi1_1 := rc1.out.cellI 1 _ rfl
  obtain ⟨⟨q1_0, xo1_0⟩, xf1_0⟩ := rc1.out.cellO 0 (by omega)
  clear g0 hb1
  have r1 : Hid (Rec3 w (w1.setCell ⟨w.heap.size + 1 + 1, 0, none⟩ (.slice b0 len0 m0)) 4 [.slice a0 len0 n0, .slice a1 len1 n1, .bool x.cycle, .slice a3 len3 n3] [.slice b0 len0 m0, .slice none 0 0, .bool false, .slice none 0 0]) := (rc1.out.set 0 (.slice b0 len0 m0) (by omega) rfl)
  have g0H : Hid (ListAt MobR 3 true (w.heap.size + 3) (w1.setCell ⟨w.heap.size + 1 + 1, 0, none⟩ (.slice b0 len0 m0)).heap.size (w1.setCell ⟨w.heap.size + 1 + 1, 0, none⟩ (.slice b0 len0 m0)) (.slice b0 len0 m0) x.objs) := g0H.out.kept MobR.stable (Nat.le_refl _) (by simp) (Same.trans (Same.refl _ _ _) (same_setCell _ _ _ _ (.inl (by omega))))
  go_wp2_with fail
  obtain ⟨W1, hW1⟩ : ∃ W : World, W = (w1.setCell ⟨w.heap.size + 1 + 1, 0, none⟩ (.slice b0 len0 m0)) := ⟨_, rfl⟩
  rw [← hW1] at r1 g0H ⊢
  clear hW1 rc1 xi1_1 xo1_0 xf1_0
  refine (c1H.out W1 r1.out.hb).mono ?_
  rintro e w2 ⟨u1, rfl, g1, hb2⟩
  obtain ⟨b1, m1, rfl⟩ := g1.form
  rw [← hlen1H.out] at g1 ⊢
  have rc2 : Hid (Rec3 w w2 4 [.slice a0 len0 n0, .slice a1 len1 n1, .bool x.cycle, .slice a3 len3 n3] [.slice b0 len0 m0, .slice none 0 0, .bool false, .slice none 0 0]) := r1.out.call hb2
  have g1H : Hid (ListAt IntR 1 true (w.heap.size + 3) w2.heap.size w2 (.slice b1 len1 m1) x.roots) := g1.kept IntR.stable r1.out.sz (Nat.le_refl _) (Same.refl _ _ _)
  have g0H : Hid (ListAt MobR 3 true (w.heap.size + 3) w2.heap.size w2 (.slice b0 len0 m0) x.objs) := g0H.out.kept MobR.stable (Nat.le_refl _) hb2.size ((Same.below hb2).mono (Nat.zero_le _) (Nat.le_refl _))
  have xi2_2 := rc2.out.cellI 2 _ rfl
  have xi2_3 := rc2.out.cellI 3 _ rfl
  obtain ⟨⟨q2_1, xo2_1⟩, xf2_1⟩ := rc2.out.cellO 1 (by omega)
  obtain ⟨⟨q2_2, xo2_2⟩, xf2_2⟩ := rc2.out.cellO 2 (by omega)
  clear g1 hb2
  have r2 : Hid (Rec3 w ((w2.setCell ⟨w.heap.size + 1 + 1, 1, none⟩ (.slice b1 len1 m1)).setCell ⟨w.heap.size + 1 + 1, 2, none⟩ (.bool x.cycle)) 4 [.slice a0 len0 n0, .slice a1 len1 n1, .bool x.cycle, .slice a3 len3 n3] [.slice b0 len0 m0, .slice b1 len1 m1, .bool x.cycle, .slice none 0 0]) := ((rc2.out.set 1 (.slice b1 len1 m1) (by omega) rfl).set 2 (.bool x.cycle) (by omega) rfl)
  have g0H : Hid (ListAt MobR 3 true (w.heap.size + 3) ((w2.setCell ⟨w.heap.size + 1 + 1, 1, none⟩ (.slice b1 len1 m1)).setCell ⟨w.heap.size + 1 + 1, 2, none⟩ (.bool x.cycle)).heap.size ((w2.setCell ⟨w.heap.size + 1 + 1, 1, none⟩ (.slice b1 len1 m1)).setCell ⟨w.heap.size + 1 + 1, 2, none⟩ (.bool x.cycle)) (.slice b0 len0 m0) x.objs) := g0H.out.kept MobR.stable (Nat.le_refl _) (by simp) (Same.trans ((Same.trans (Same.refl _ _ _) (same_setCell _ _ _ _ (.inl (by omega))))) (same_setCell _ _ _ _ (.inl (by omega))))
  have g1H : Hid (ListAt IntR 1 true (w.heap.size + 3) ((w2.setCell ⟨w.heap.size + 1 + 1, 1, none⟩ (.slice b1 len1 m1)).setCell ⟨w.heap.size + 1 + 1, 2, none⟩ (.bool x.cycle)).heap.size ((w2.setCell ⟨w.heap.size + 1 + 1, 1, none⟩ (.slice b1 len1 m1)).setCell ⟨w.heap.size + 1 + 1, 2, none⟩ (.bool x.cycle)) (.slice b1 len1 m1) x.roots) := g1H.out.kept IntR.stable (Nat.le_refl _) (by simp) (Same.trans ((Same.trans (Same.refl _ _ _) (same_setCell _ _ _ _ (.inl (by omega))))) (same_setCell _ _ _ _ (.inl (by omega))))
  go_wp2_with fail
  obtain ⟨W2, hW2⟩ : ∃ W : World, W = ((w2.setCell ⟨w.heap.size + 1 + 1, 1, none⟩ (.slice b1 len1 m1)).setCell ⟨w.heap.size + 1 + 1, 2, none⟩ (.bool x.cycle)) := ⟨_, rfl⟩
  rw [← hW2] at r2 g0H g1H ⊢
  clear hW2 rc2 xi2_2 xi2_3 xo2_1 xf2_1 xo2_2 xf2_2
  refine (c3H.out W2 r2.out.hb).mono ?_
  rintro e w3 ⟨u3, rfl, g3, hb3⟩
  obtain ⟨b3, m3, rfl⟩ := g3.form
  rw [← hlen3H.out] at g3 ⊢
  have rc3 : Hid (Rec3 w w3 4 [.slice a0 len0 n0, .slice a1 len1 n1, .bool x.cycle, .slice a3 len3 n3] [.slice b0 len0 m0, .slice b1 len1 m1, .bool x.cycle, .slice none 0 0]) := r2.out.call hb3
  have g3H : Hid (ListAt IntR 1 true (w.heap.size + 3) w3.heap.size w3 (.slice b3 len3 m3) x.row_) := g3.kept IntR.stable r2.out.sz (Nat.le_refl _) (Same.refl _ _ _)
  have g0H : Hid (ListAt MobR 3 true (w.heap.size + 3) w3.heap.size w3 (.slice b0 len0 m0) x.objs) := g0H.out.kept MobR.stable (Nat.le_refl _) hb3.size ((Same.below hb3).mono (Nat.zero_le _) (Nat.le_refl _))
  have g1H : Hid (ListAt IntR 1 true (w.heap.size + 3) w3.heap.size w3 (.slice b1 len1 m1) x.roots) := g1H.out.kept IntR.stable (Nat.le_refl _) hb3.size ((Same.below hb3).mono (Nat.zero_le _) (Nat.le_refl _))
  obtain ⟨⟨q3_3, xo3_3⟩, xf3_3⟩ := rc3.out.cellO 3 (by omega)
  clear g3 hb3
  have r3 : Hid (Rec3 w (w3.setCell ⟨w.heap.size + 1 + 1, 3, none⟩ (.slice b3 len3 m3)) 4 [.slice a0 len0 n0, .slice a1 len1 n1, .bool x.cycle, .slice a3 len3 n3] [.slice b0 len0 m0, .slice b1 len1 m1, .bool x.cycle, .slice b3 len3 m3]) := (rc3.out.set 3 (.slice b3 len3 m3) (by omega) rfl)
  have g0H : Hid (ListAt MobR 3 true (w.heap.size + 3) (w3.setCell ⟨w.heap.size + 1 + 1, 3, none⟩ (.slice b3 len3 m3)).heap.size (w3.setCell ⟨w.heap.size + 1 + 1, 3, none⟩ (.slice b3 len3 m3)) (.slice b0 len0 m0) x.objs) := g0H.out.kept MobR.stable (Nat.le_refl _) (by simp) (Same.trans (Same.refl _ _ _) (same_setCell _ _ _ _ (.inl (by omega))))
  have g1H : Hid (ListAt IntR 1 true (w.heap.size + 3) (w3.setCell ⟨w.heap.size + 1 + 1, 3, none⟩ (.slice b3 len3 m3)).heap.size (w3.setCell ⟨w.heap.size + 1 + 1, 3, none⟩ (.slice b3 len3 m3)) (.slice b1 len1 m1) x.roots) := g1H.out.kept IntR.stable (Nat.le_refl _) (by simp) (Same.trans (Same.refl _ _ _) (same_setCell _ _ _ _ (.inl (by omega))))
  have g3H : Hid (ListAt IntR 1 true (w.heap.size + 3) (w3.setCell ⟨w.heap.size + 1 + 1, 3, none⟩ (.slice b3 len3 m3)).heap.size (w3.setCell ⟨w.heap.size + 1 + 1, 3, none⟩ (.slice b3 len3 m3)) (.slice b3 len3 m3) x.row_) := g3H.out.kept IntR.stable (Nat.le_refl _) (by simp) (Same.trans (Same.refl _ _ _) (same_setCell _ _ _ _ (.inl (by omega))))
  go_wp2_with (first | (refine wpList_load_mid rfl 44 _ rfl (w.heap.size + 1 + 1) 0 rfl [.slice b0 len0 m0, .slice b1 len1 m1, .bool x.cycle, .slice b3 len3 m3] _ r3.out.o Try.underlying44 rfl hinf.out ?_) | (refine wpList_store_mid rfl 44 _ _ rfl (w.heap.size + 1) 0 #[.slice b0 len0 m0, .slice b1 len1 m1, .bool x.cycle, .slice b3 len3 m3] rfl rfl r3.out.z hinf.out (OneCells.all (row := [.slice b0 len0 m0, .slice b1 len1 m1, .bool x.cycle, .slice b3 len3 m3]) rfl) ?_))
  refine bodyPost_ret (v := .agg #[.slice b0 len0 m0, .slice b1 len1 m1, .bool x.cycle, .slice b3 len3 m3]) (results_cell_mid rfl _ _ (w.heap.size + 1) [.slice b0 len0 m0, .slice b1 len1 m1, .bool x.cycle, .slice b3 len3 m3] _ rfl (World.rangeAt_setCells_same _ _ _ _ r3.out.z) Try.underlying44 rfl hinf.out) rfl ⟨[.slice b0 len0 m0, .slice b1 len1 m1, .bool x.cycle, .slice b3 len3 m3], rfl, rfl, rfl, ⟨_, _, _, rfl, ?_, ?_, ?_⟩, below_setCells _ (by omega) _ _ _ r3.out.hb⟩
  · exact g0H.out.kept MobR.stable (by omega) (by rw [size_setCells]; exact Nat.le_refl _) (Same.setCells _ _ _ _ (.inl (by omega)))
  · exact g1H.out.kept IntR.stable (by omega) (by rw [size_setCells]; exact Nat.le_refl _) (Same.setCells _ _ _ _ (.inl (by omega)))
  · exact g3H.out.kept IntR.stable (by omega) (by rw [size_setCells]; exact Nat.le_refl _) (Same.setCells _ _ _ _ (.inl (by omega)))
end Go.Proofs.Ytedpocgmfpaeeaa
