/- Copies of lists of records: each element by its own copy. -/
import Derived.Test.YtkkfkbcdcdifdaaGreatDoorDeepA
import Derived.Deep.QuietTactic
import Derived.Deep.Light
import Derived.OwnWalk
namespace Go.Proofs.YtkkfkbcdcdifdaaGreatDoor
set_option linter.unusedVariables false
open Go.ChangeShapes Go.WideShapes Go.ChangeAt Go.RowKit

def OneCells (row : List Value) : Prop := row.all (·.oneCell') = true
theorem OneCells.all {row : List Value} (h : OneCells row) : row.toArray.all (·.oneCell') = true := all_oneCell_toArray (by simpa [OneCells] using h)

/-- What a copy of one element says. -/
def ElemTo {α : Type} (f k : Nat) (R : Rd α) (base : Nat) (x : α) : Prop := ∀ (W : World) (row : List Value), base ≤ W.heap.size → R false 0 base W row x → row.length = k → Calls Tryz.prog f #[.agg row.toArray] W fun e w' => ∃ row' : List Value, e = .returned (.agg row'.toArray) ∧ row'.length = k ∧ OneCells row' ∧ R true W.heap.size w'.heap.size w' row' x ∧ Below W.heap.size W w'

theorem elemT94 : ∃ i z, Tryz.prog.info? 94 = some i ∧ i.zero = some z ∧ i.size = 9 ∧ i.bytes = 120 := by
  obtain ⟨i0, hi0⟩ : ∃ i, Tryz.prog.info? 94 = some i := Option.isSome_iff_exists.1 (by kernel_rfl)
  obtain ⟨z, hz⟩ : ∃ z, (Tryz.prog.info? 94).bind (·.zero) = some z := Option.isSome_iff_exists.1 (by kernel_rfl)
  refine ⟨i0, z, hi0, ?_, ?_, ?_⟩
  · rw [hi0] at hz; exact hz
  · have : (Tryz.prog.info? 94).map (·.size) = some 9 := by kernel_rfl
    rw [hi0] at this; exact Option.some.inj this
  · have : (Tryz.prog.info? 94).map (·.bytes) = some 120 := by kernel_rfl
    rw [hi0] at this; exact Option.some.inj this

theorem elemT95 : ∃ i z, Tryz.prog.info? 95 = some i ∧ i.zero = some z ∧ i.size = 4 ∧ i.bytes = 40 := by
  obtain ⟨i0, hi0⟩ : ∃ i, Tryz.prog.info? 95 = some i := Option.isSome_iff_exists.1 (by kernel_rfl)
  obtain ⟨z, hz⟩ : ∃ z, (Tryz.prog.info? 95).bind (·.zero) = some z := Option.isSome_iff_exists.1 (by kernel_rfl)
  refine ⟨i0, z, hi0, ?_, ?_, ?_⟩
  · rw [hi0] at hz; exact hz
  · have : (Tryz.prog.info? 95).map (·.size) = some 4 := by kernel_rfl
    rw [hi0] at this; exact Option.some.inj this
  · have : (Tryz.prog.info? 95).map (·.bytes) = some 40 := by kernel_rfl
    rw [hi0] at this; exact Option.some.inj this

theorem elemT96 : ∃ i z, Tryz.prog.info? 96 = some i ∧ i.zero = some z ∧ i.size = 3 ∧ i.bytes = 56 := by
  obtain ⟨i0, hi0⟩ : ∃ i, Tryz.prog.info? 96 = some i := Option.isSome_iff_exists.1 (by kernel_rfl)
  obtain ⟨z, hz⟩ : ∃ z, (Tryz.prog.info? 96).bind (·.zero) = some z := Option.isSome_iff_exists.1 (by kernel_rfl)
  refine ⟨i0, z, hi0, ?_, ?_, ?_⟩
  · rw [hi0] at hz; exact hz
  · have : (Tryz.prog.info? 96).map (·.size) = some 3 := by kernel_rfl
    rw [hi0] at this; exact Option.some.inj this
  · have : (Tryz.prog.info? 96).map (·.bytes) = some 56 := by kernel_rfl
    rw [hi0] at this; exact Option.some.inj this

theorem elemT99 : ∃ i z, Tryz.prog.info? 99 = some i ∧ i.zero = some z ∧ i.size = 2 ∧ i.bytes = 16 := by
  obtain ⟨i0, hi0⟩ : ∃ i, Tryz.prog.info? 99 = some i := Option.isSome_iff_exists.1 (by kernel_rfl)
  obtain ⟨z, hz⟩ : ∃ z, (Tryz.prog.info? 99).bind (·.zero) = some z := Option.isSome_iff_exists.1 (by kernel_rfl)
  refine ⟨i0, z, hi0, ?_, ?_, ?_⟩
  · rw [hi0] at hz; exact hz
  · have : (Tryz.prog.info? 99).map (·.size) = some 2 := by kernel_rfl
    rw [hi0] at this; exact Option.some.inj this
  · have : (Tryz.prog.info? 99).map (·.bytes) = some 16 := by kernel_rfl
    rw [hi0] at this; exact Option.some.inj this

theorem elemT9 : ∃ i z, Tryz.prog.info? 9 = some i ∧ i.zero = some z ∧ i.size = 1 ∧ i.bytes = 16 := by
  obtain ⟨i0, hi0⟩ : ∃ i, Tryz.prog.info? 9 = some i := Option.isSome_iff_exists.1 (by kernel_rfl)
  obtain ⟨z, hz⟩ : ∃ z, (Tryz.prog.info? 9).bind (·.zero) = some z := Option.isSome_iff_exists.1 (by kernel_rfl)
  refine ⟨i0, z, hi0, ?_, ?_, ?_⟩
  · rw [hi0] at hz; exact hz
  · have : (Tryz.prog.info? 9).map (·.size) = some 1 := by kernel_rfl
    rw [hi0] at this; exact Option.some.inj this
  · have : (Tryz.prog.info? 9).map (·.bytes) = some 16 := by kernel_rfl
    rw [hi0] at this; exact Option.some.inj this

theorem elemT2 : ∃ i z, Tryz.prog.info? 2 = some i ∧ i.zero = some z ∧ i.size = 1 ∧ i.bytes = 8 := by
  obtain ⟨i0, hi0⟩ : ∃ i, Tryz.prog.info? 2 = some i := Option.isSome_iff_exists.1 (by kernel_rfl)
  obtain ⟨z, hz⟩ : ∃ z, (Tryz.prog.info? 2).bind (·.zero) = some z := Option.isSome_iff_exists.1 (by kernel_rfl)
  refine ⟨i0, z, hi0, ?_, ?_, ?_⟩
  · rw [hi0] at hz; exact hz
  · have : (Tryz.prog.info? 2).map (·.size) = some 1 := by kernel_rfl
    rw [hi0] at this; exact Option.some.inj this
  · have : (Tryz.prog.info? 2).map (·.bytes) = some 8 := by kernel_rfl
    rw [hi0] at this; exact Option.some.inj this

set_option maxRecDepth 1000000 in
set_option maxHeartbeats 1000000 in
theorem toInsS_calls (v : Value) (xs : List InsL) (w : World) (base : Nat) (hbase : base ≤ w.heap.size) (ht : ListAt InsR 9 false 0 base w v xs) (hn : xs.length ≤ 1048576) (hel : ∀ x ∈ xs, ElemTo 67 9 InsR base x) :
    Calls Tryz.prog 27 #[v] w fun e w' => ∃ u, e = .returned u ∧ ListAt InsR 9 true w.heap.size w'.heap.size w' u xs ∧ Below w.heap.size w w' := by
  obtain ⟨i0, z0, hi0, hz0, hz1, hz2⟩ := elemT94
  have hld : (Tryz.prog.info? 83).map (·.size) = some 9 := by kernel_rfl
  have hst : (Tryz.prog.info? 94).map (·.size) = some 9 := by kernel_rfl
  have hldH : Hid ((Tryz.prog.info? 83).map (·.size) = some 9) := hld
  have hstH : Hid ((Tryz.prog.info? 94).map (·.size) = some 9) := hst
  clear hld hst
  obtain ⟨a, c, rfl⟩ := ht.form
  have helH : Hid (∀ x ∈ xs, ElemTo 67 9 InsR base x) := hel
  have htH : Hid (∀ wr, Below w.heap.size w wr → ListAt InsR 9 false 0 base wr (.slice a xs.length c) xs) := fun wr hw => ht.kept InsR.stable (Nat.le_refl _) (Nat.le_refl _) ((Same.below hw).mono (Nat.zero_le _) hbase)
  have hbH : Hid (base ≤ w.heap.size) := hbase
  clear ht hel hbase
  go_enter Tryz.func27, Tryz.ntmps27
  go_wp2_with (refine wpList_make_full _ rfl (.tmp 6) (.tmp 6) 30 rfl w.heap.size 94 i0 z0 9 Tryz.underlying30 hi0 hz0 hz1 .i64 .i64 xs.length xs.length xs.length rfl rfl rfl rfl (by rw [hz2]; omega) (by unfold maxLen; omega) (Nat.le_refl _) ?_; intro w1 hown1 hgrow1)
  have hFH : Hid (FilledL InsR 9 xs w 0 w1) := FilledL.start hown1 hgrow1
  clear hown1 hgrow1 hi0 hz0 hz1 hz2
  go_loopw [4] (fun i wr => ∃ m : Nat, m ≤ xs.length ∧ i = .int .i64 m ∧ Hid (FilledL InsR 9 xs w m wr)) (fun i _ => xs.length - (intOf i).toNat)
  case atStart => exact ⟨0, Nat.zero_le _, rfl, hFH⟩
  case round =>
    obtain ⟨m, hm, rfl, hF⟩ := hrel
    by_cases hlt : m < xs.length
    · obtain ⟨b, off, row, rfl, hbb, hrl, hrr, hrx⟩ := (htH.out wr hF.out.1).at m hlt
      have hlt' : (m : Int) < (xs.length : Int) := by omega
      have hcall := helH.out xs[m] (List.getElem_mem hlt) wr row (Nat.le_trans hbH.out hF.out.1.size) hrx hrl
      have hcallH : Hid (Calls Tryz.prog 67 #[.agg row.toArray] wr _) := hcall
      have hrrH : Hid (wr.rangeAt b (off + m * 9) row) := hrr
      have hrlH : Hid (row.length = 9) := hrl
      clear hcall hrr hrl hrx
      go_wp2_with (first
        | (refine wpList_load_mid rfl 83 _ rfl b (off + m * 9) (by first | rfl | (simp; done)) row _ hrrH.out Tryz.underlying83 rfl (by rw [hrlH.out]; exact hldH.out) ?_)
        | (go_at_call 67; refine hcallH.out.mono ?_; rintro e w2 ⟨row', rfl, hl', hone, hx', hb2⟩)
        | (refine wpList_store_mid rfl 94 _ _ rfl w.heap.size (m * 9) row'.toArray (by first | rfl | (simp; done)) (by first | rfl | (simp; done)) (by simpa [hl'] using hF.out.room hlt hb2) (by simpa [hl'] using hstH.out) hone.all ?_))
      go_roundw
      case rel => exact ⟨m + 1, by omega, by go_num, hF.out.next InsR.stable hlt hb2 hl' hx'⟩
      case measure => simp [intOf]; omega
    · have hend := hF.out
      go_wp2
      go_ret
      exact ⟨_, rfl, hend.done InsR.stable (by omega), hend.1⟩

set_option maxRecDepth 1000000 in
set_option maxHeartbeats 1000000 in
theorem toHandS_calls (v : Value) (xs : List HandL) (w : World) (base : Nat) (hbase : base ≤ w.heap.size) (ht : ListAt HandR 4 false 0 base w v xs) (hn : xs.length ≤ 1048576) (hel : ∀ x ∈ xs, ElemTo 68 4 HandR base x) :
    Calls Tryz.prog 28 #[v] w fun e w' => ∃ u, e = .returned u ∧ ListAt HandR 4 true w.heap.size w'.heap.size w' u xs ∧ Below w.heap.size w w' := by
  obtain ⟨i0, z0, hi0, hz0, hz1, hz2⟩ := elemT95
  have hld : (Tryz.prog.info? 86).map (·.size) = some 4 := by kernel_rfl
  have hst : (Tryz.prog.info? 95).map (·.size) = some 4 := by kernel_rfl
  have hldH : Hid ((Tryz.prog.info? 86).map (·.size) = some 4) := hld
  have hstH : Hid ((Tryz.prog.info? 95).map (·.size) = some 4) := hst
  clear hld hst
  obtain ⟨a, c, rfl⟩ := ht.form
  have helH : Hid (∀ x ∈ xs, ElemTo 68 4 HandR base x) := hel
  have htH : Hid (∀ wr, Below w.heap.size w wr → ListAt HandR 4 false 0 base wr (.slice a xs.length c) xs) := fun wr hw => ht.kept HandR.stable (Nat.le_refl _) (Nat.le_refl _) ((Same.below hw).mono (Nat.zero_le _) hbase)
  have hbH : Hid (base ≤ w.heap.size) := hbase
  clear ht hel hbase
  go_enter Tryz.func28, Tryz.ntmps28
  go_wp2_with (refine wpList_make_full _ rfl (.tmp 6) (.tmp 6) 31 rfl w.heap.size 95 i0 z0 4 Tryz.underlying31 hi0 hz0 hz1 .i64 .i64 xs.length xs.length xs.length rfl rfl rfl rfl (by rw [hz2]; omega) (by unfold maxLen; omega) (Nat.le_refl _) ?_; intro w1 hown1 hgrow1)
  have hFH : Hid (FilledL HandR 4 xs w 0 w1) := FilledL.start hown1 hgrow1
  clear hown1 hgrow1 hi0 hz0 hz1 hz2
  go_loopw [4] (fun i wr => ∃ m : Nat, m ≤ xs.length ∧ i = .int .i64 m ∧ Hid (FilledL HandR 4 xs w m wr)) (fun i _ => xs.length - (intOf i).toNat)
  case atStart => exact ⟨0, Nat.zero_le _, rfl, hFH⟩
  case round =>
    obtain ⟨m, hm, rfl, hF⟩ := hrel
    by_cases hlt : m < xs.length
    · obtain ⟨b, off, row, rfl, hbb, hrl, hrr, hrx⟩ := (htH.out wr hF.out.1).at m hlt
      have hlt' : (m : Int) < (xs.length : Int) := by omega
      have hcall := helH.out xs[m] (List.getElem_mem hlt) wr row (Nat.le_trans hbH.out hF.out.1.size) hrx hrl
      have hcallH : Hid (Calls Tryz.prog 68 #[.agg row.toArray] wr _) := hcall
      have hrrH : Hid (wr.rangeAt b (off + m * 4) row) := hrr
      have hrlH : Hid (row.length = 4) := hrl
      clear hcall hrr hrl hrx
      go_wp2_with (first
        | (refine wpList_load_mid rfl 86 _ rfl b (off + m * 4) (by first | rfl | (simp; done)) row _ hrrH.out Tryz.underlying86 rfl (by rw [hrlH.out]; exact hldH.out) ?_)
        | (go_at_call 68; refine hcallH.out.mono ?_; rintro e w2 ⟨row', rfl, hl', hone, hx', hb2⟩)
        | (refine wpList_store_mid rfl 95 _ _ rfl w.heap.size (m * 4) row'.toArray (by first | rfl | (simp; done)) (by first | rfl | (simp; done)) (by simpa [hl'] using hF.out.room hlt hb2) (by simpa [hl'] using hstH.out) hone.all ?_))
      go_roundw
      case rel => exact ⟨m + 1, by omega, by go_num, hF.out.next HandR.stable hlt hb2 hl' hx'⟩
      case measure => simp [intOf]; omega
    · have hend := hF.out
      go_wp2
      go_ret
      exact ⟨_, rfl, hend.done HandR.stable (by omega), hend.1⟩

set_option maxRecDepth 1000000 in
set_option maxHeartbeats 1000000 in
theorem toFrameS_calls (v : Value) (xs : List FrameL) (w : World) (base : Nat) (hbase : base ≤ w.heap.size) (ht : ListAt FrameR 3 false 0 base w v xs) (hn : xs.length ≤ 1048576) (hel : ∀ x ∈ xs, ElemTo 69 3 FrameR base x) :
    Calls Tryz.prog 29 #[v] w fun e w' => ∃ u, e = .returned u ∧ ListAt FrameR 3 true w.heap.size w'.heap.size w' u xs ∧ Below w.heap.size w w' := by
  obtain ⟨i0, z0, hi0, hz0, hz1, hz2⟩ := elemT96
  have hld : (Tryz.prog.info? 89).map (·.size) = some 3 := by kernel_rfl
  have hst : (Tryz.prog.info? 96).map (·.size) = some 3 := by kernel_rfl
  have hldH : Hid ((Tryz.prog.info? 89).map (·.size) = some 3) := hld
  have hstH : Hid ((Tryz.prog.info? 96).map (·.size) = some 3) := hst
  clear hld hst
  obtain ⟨a, c, rfl⟩ := ht.form
  have helH : Hid (∀ x ∈ xs, ElemTo 69 3 FrameR base x) := hel
  have htH : Hid (∀ wr, Below w.heap.size w wr → ListAt FrameR 3 false 0 base wr (.slice a xs.length c) xs) := fun wr hw => ht.kept FrameR.stable (Nat.le_refl _) (Nat.le_refl _) ((Same.below hw).mono (Nat.zero_le _) hbase)
  have hbH : Hid (base ≤ w.heap.size) := hbase
  clear ht hel hbase
  go_enter Tryz.func29, Tryz.ntmps29
  go_wp2_with (refine wpList_make_full _ rfl (.tmp 6) (.tmp 6) 32 rfl w.heap.size 96 i0 z0 3 Tryz.underlying32 hi0 hz0 hz1 .i64 .i64 xs.length xs.length xs.length rfl rfl rfl rfl (by rw [hz2]; omega) (by unfold maxLen; omega) (Nat.le_refl _) ?_; intro w1 hown1 hgrow1)
  have hFH : Hid (FilledL FrameR 3 xs w 0 w1) := FilledL.start hown1 hgrow1
  clear hown1 hgrow1 hi0 hz0 hz1 hz2
  go_loopw [4] (fun i wr => ∃ m : Nat, m ≤ xs.length ∧ i = .int .i64 m ∧ Hid (FilledL FrameR 3 xs w m wr)) (fun i _ => xs.length - (intOf i).toNat)
  case atStart => exact ⟨0, Nat.zero_le _, rfl, hFH⟩
  case round =>
    obtain ⟨m, hm, rfl, hF⟩ := hrel
    by_cases hlt : m < xs.length
    · obtain ⟨b, off, row, rfl, hbb, hrl, hrr, hrx⟩ := (htH.out wr hF.out.1).at m hlt
      have hlt' : (m : Int) < (xs.length : Int) := by omega
      have hcall := helH.out xs[m] (List.getElem_mem hlt) wr row (Nat.le_trans hbH.out hF.out.1.size) hrx hrl
      have hcallH : Hid (Calls Tryz.prog 69 #[.agg row.toArray] wr _) := hcall
      have hrrH : Hid (wr.rangeAt b (off + m * 3) row) := hrr
      have hrlH : Hid (row.length = 3) := hrl
      clear hcall hrr hrl hrx
      go_wp2_with (first
        | (refine wpList_load_mid rfl 89 _ rfl b (off + m * 3) (by first | rfl | (simp; done)) row _ hrrH.out Tryz.underlying89 rfl (by rw [hrlH.out]; exact hldH.out) ?_)
        | (go_at_call 69; refine hcallH.out.mono ?_; rintro e w2 ⟨row', rfl, hl', hone, hx', hb2⟩)
        | (refine wpList_store_mid rfl 96 _ _ rfl w.heap.size (m * 3) row'.toArray (by first | rfl | (simp; done)) (by first | rfl | (simp; done)) (by simpa [hl'] using hF.out.room hlt hb2) (by simpa [hl'] using hstH.out) hone.all ?_))
      go_roundw
      case rel => exact ⟨m + 1, by omega, by go_num, hF.out.next FrameR.stable hlt hb2 hl' hx'⟩
      case measure => simp [intOf]; omega
    · have hend := hF.out
      go_wp2
      go_ret
      exact ⟨_, rfl, hend.done FrameR.stable (by omega), hend.1⟩

set_option maxRecDepth 1000000 in
set_option maxHeartbeats 1000000 in
theorem toLineS_calls (v : Value) (xs : List LineL) (w : World) (base : Nat) (hbase : base ≤ w.heap.size) (ht : ListAt LineR 2 false 0 base w v xs) (hn : xs.length ≤ 1048576) (hel : ∀ x ∈ xs, ElemTo 70 2 LineR base x) :
    Calls Tryz.prog 30 #[v] w fun e w' => ∃ u, e = .returned u ∧ ListAt LineR 2 true w.heap.size w'.heap.size w' u xs ∧ Below w.heap.size w w' := by
  obtain ⟨i0, z0, hi0, hz0, hz1, hz2⟩ := elemT99
  have hld : (Tryz.prog.info? 104).map (·.size) = some 2 := by kernel_rfl
  have hst : (Tryz.prog.info? 99).map (·.size) = some 2 := by kernel_rfl
  have hldH : Hid ((Tryz.prog.info? 104).map (·.size) = some 2) := hld
  have hstH : Hid ((Tryz.prog.info? 99).map (·.size) = some 2) := hst
  clear hld hst
  obtain ⟨a, c, rfl⟩ := ht.form
  have helH : Hid (∀ x ∈ xs, ElemTo 70 2 LineR base x) := hel
  have htH : Hid (∀ wr, Below w.heap.size w wr → ListAt LineR 2 false 0 base wr (.slice a xs.length c) xs) := fun wr hw => ht.kept LineR.stable (Nat.le_refl _) (Nat.le_refl _) ((Same.below hw).mono (Nat.zero_le _) hbase)
  have hbH : Hid (base ≤ w.heap.size) := hbase
  clear ht hel hbase
  go_enter Tryz.func30, Tryz.ntmps30
  go_wp2_with (refine wpList_make_full _ rfl (.tmp 6) (.tmp 6) 33 rfl w.heap.size 99 i0 z0 2 Tryz.underlying33 hi0 hz0 hz1 .i64 .i64 xs.length xs.length xs.length rfl rfl rfl rfl (by rw [hz2]; omega) (by unfold maxLen; omega) (Nat.le_refl _) ?_; intro w1 hown1 hgrow1)
  have hFH : Hid (FilledL LineR 2 xs w 0 w1) := FilledL.start hown1 hgrow1
  clear hown1 hgrow1 hi0 hz0 hz1 hz2
  go_loopw [4] (fun i wr => ∃ m : Nat, m ≤ xs.length ∧ i = .int .i64 m ∧ Hid (FilledL LineR 2 xs w m wr)) (fun i _ => xs.length - (intOf i).toNat)
  case atStart => exact ⟨0, Nat.zero_le _, rfl, hFH⟩
  case round =>
    obtain ⟨m, hm, rfl, hF⟩ := hrel
    by_cases hlt : m < xs.length
    · obtain ⟨b, off, row, rfl, hbb, hrl, hrr, hrx⟩ := (htH.out wr hF.out.1).at m hlt
      have hlt' : (m : Int) < (xs.length : Int) := by omega
      have hcall := helH.out xs[m] (List.getElem_mem hlt) wr row (Nat.le_trans hbH.out hF.out.1.size) hrx hrl
      have hcallH : Hid (Calls Tryz.prog 70 #[.agg row.toArray] wr _) := hcall
      have hrrH : Hid (wr.rangeAt b (off + m * 2) row) := hrr
      have hrlH : Hid (row.length = 2) := hrl
      clear hcall hrr hrl hrx
      go_wp2_with (first
        | (refine wpList_load_mid rfl 104 _ rfl b (off + m * 2) (by first | rfl | (simp; done)) row _ hrrH.out Tryz.underlying104 rfl (by rw [hrlH.out]; exact hldH.out) ?_)
        | (go_at_call 70; refine hcallH.out.mono ?_; rintro e w2 ⟨row', rfl, hl', hone, hx', hb2⟩)
        | (refine wpList_store_mid rfl 99 _ _ rfl w.heap.size (m * 2) row'.toArray (by first | rfl | (simp; done)) (by first | rfl | (simp; done)) (by simpa [hl'] using hF.out.room hlt hb2) (by simpa [hl'] using hstH.out) hone.all ?_))
      go_roundw
      case rel => exact ⟨m + 1, by omega, by go_num, hF.out.next LineR.stable hlt hb2 hl' hx'⟩
      case measure => simp [intOf]; omega
    · have hend := hF.out
      go_wp2
      go_ret
      exact ⟨_, rfl, hend.done LineR.stable (by omega), hend.1⟩

set_option maxRecDepth 1000000 in
set_option maxHeartbeats 1000000 in
theorem toStrs_calls (v : Value) (xs : List ByteArray) (w : World) (base : Nat) (hbase : base ≤ w.heap.size) (ht : ListAt StrR 1 false 0 base w v xs) (hn : xs.length ≤ 1048576) :
    Calls Tryz.prog 48 #[v] w fun e w' => ∃ u, e = .returned u ∧ ListAt StrR 1 true w.heap.size w'.heap.size w' u xs ∧ Below w.heap.size w w' := by
  obtain ⟨i0, z0, hi0, hz0, hz1, hz2⟩ := elemT9
  obtain ⟨a, c, rfl⟩ := ht.form
  have htH : Hid (∀ wr, Below w.heap.size w wr → ListAt StrR 1 false 0 base wr (.slice a xs.length c) xs) := fun wr hw => ht.kept StrR.stable (Nat.le_refl _) (Nat.le_refl _) ((Same.below hw).mono (Nat.zero_le _) hbase)
  clear ht hbase
  go_enter Tryz.func48, Tryz.ntmps48
  go_wp2_with (refine wpList_make_full _ rfl (.tmp 6) (.tmp 6) 39 rfl w.heap.size 9 i0 z0 1 Tryz.underlying39 hi0 hz0 hz1 .i64 .i64 xs.length xs.length xs.length rfl rfl rfl rfl (by rw [hz2]; omega) (by unfold maxLen; omega) (Nat.le_refl _) ?_; intro w1 hown1 hgrow1)
  have hFH : Hid (FilledL StrR 1 xs w 0 w1) := FilledL.start hown1 hgrow1
  clear hown1 hgrow1 hi0 hz0 hz1 hz2
  go_loopw [4] (fun i wr => ∃ m : Nat, m ≤ xs.length ∧ i = .int .i64 m ∧ Hid (FilledL StrR 1 xs w m wr)) (fun i _ => xs.length - (intOf i).toNat)
  case atStart => exact ⟨0, Nat.zero_le _, rfl, hFH⟩
  case round =>
    obtain ⟨m, hm, rfl, hF⟩ := hrel
    by_cases hlt : m < xs.length
    · obtain ⟨b, off, row, rfl, hbb, hrl, hrr, hrx⟩ := (htH.out wr hF.out.1).at m hlt
      have hlt' : (m : Int) < (xs.length : Int) := by omega
      have hrow : row = [.string xs[m]] := hrx
      have hcell : wr.cell? ⟨b, off + m, none⟩ = some (.string xs[m]) := by simpa using hrr 0 (.string xs[m]) (by rw [hrow]; rfl)
      have hroom := hF.out.room hlt (Below.refl _ _) 0 (by omega)
      have hsome : ∃ u, wr.cell? ⟨w.heap.size, m, none⟩ = some u := Option.isSome_iff_exists.1 (by simpa using hroom.1)
      have hfz : wr.frozen? ⟨w.heap.size, m, none⟩ = false := by simpa using hroom.2
      obtain ⟨u, hu⟩ := hsome
      have hnx : FilledL StrR 1 xs w (m + 1) (wr.setCells w.heap.size (m * 1) [.string xs[m]]) := hF.out.next StrR.stable hlt (Below.refl _ _) rfl rfl
      have hnxH : Hid (FilledL StrR 1 xs w (m + 1) (wr.setCell ⟨w.heap.size, m, none⟩ (.string xs[m]))) := by
        have e : m * 1 = m := Nat.mul_one m
        rw [e] at hnx; exact hnx
      obtain ⟨z, hz⟩ : ∃ z, z = xs[m] := ⟨_, rfl⟩
      rw [← hz] at hcell hnxH
      clear hz hnx hrow hrx hrr hrl hroom
      go_wp2
      go_roundw
      case rel => exact ⟨m + 1, by omega, by go_num, hnxH⟩
      case measure => simp [intOf]; omega
    · have hend := hF.out
      go_wp2
      go_ret
      exact ⟨_, rfl, hend.done StrR.stable (by omega), hend.1⟩

set_option maxRecDepth 1000000 in
set_option maxHeartbeats 1000000 in
theorem toIntsL_calls (v : Value) (xs : List Int) (w : World) (base : Nat) (hbase : base ≤ w.heap.size) (ht : ListAt IntR 1 false 0 base w v xs) (hn : xs.length ≤ 1048576) :
    Calls Tryz.prog 114 #[v] w fun e w' => ∃ u, e = .returned u ∧ ListAt IntR 1 true w.heap.size w'.heap.size w' u xs ∧ Below w.heap.size w w' := by
  obtain ⟨i0, z0, hi0, hz0, hz1, hz2⟩ := elemT2
  obtain ⟨a, c, rfl⟩ := ht.form
  have htH : Hid (∀ wr, Below w.heap.size w wr → ListAt IntR 1 false 0 base wr (.slice a xs.length c) xs) := fun wr hw => ht.kept IntR.stable (Nat.le_refl _) (Nat.le_refl _) ((Same.below hw).mono (Nat.zero_le _) hbase)
  clear ht hbase
  go_enter Tryz.func114, Tryz.ntmps114
  go_wp2_with (refine wpList_make_full _ rfl (.tmp 6) (.tmp 6) 81 rfl w.heap.size 2 i0 z0 1 Tryz.underlying81 hi0 hz0 hz1 .i64 .i64 xs.length xs.length xs.length rfl rfl rfl rfl (by rw [hz2]; omega) (by unfold maxLen; omega) (Nat.le_refl _) ?_; intro w1 hown1 hgrow1)
  have hFH : Hid (FilledL IntR 1 xs w 0 w1) := FilledL.start hown1 hgrow1
  clear hown1 hgrow1 hi0 hz0 hz1 hz2
  go_loopw [4] (fun i wr => ∃ m : Nat, m ≤ xs.length ∧ i = .int .i64 m ∧ Hid (FilledL IntR 1 xs w m wr)) (fun i _ => xs.length - (intOf i).toNat)
  case atStart => exact ⟨0, Nat.zero_le _, rfl, hFH⟩
  case round =>
    obtain ⟨m, hm, rfl, hF⟩ := hrel
    by_cases hlt : m < xs.length
    · obtain ⟨b, off, row, rfl, hbb, hrl, hrr, hrx⟩ := (htH.out wr hF.out.1).at m hlt
      have hlt' : (m : Int) < (xs.length : Int) := by omega
      have hrow : row = [.int .i64 xs[m]] := hrx
      have hcell : wr.cell? ⟨b, off + m, none⟩ = some (.int .i64 xs[m]) := by simpa using hrr 0 (.int .i64 xs[m]) (by rw [hrow]; rfl)
      have hroom := hF.out.room hlt (Below.refl _ _) 0 (by omega)
      have hsome : ∃ u, wr.cell? ⟨w.heap.size, m, none⟩ = some u := Option.isSome_iff_exists.1 (by simpa using hroom.1)
      have hfz : wr.frozen? ⟨w.heap.size, m, none⟩ = false := by simpa using hroom.2
      obtain ⟨u, hu⟩ := hsome
      have hnx : FilledL IntR 1 xs w (m + 1) (wr.setCells w.heap.size (m * 1) [.int .i64 xs[m]]) := hF.out.next IntR.stable hlt (Below.refl _ _) rfl rfl
      have hnxH : Hid (FilledL IntR 1 xs w (m + 1) (wr.setCell ⟨w.heap.size, m, none⟩ (.int .i64 xs[m]))) := by
        have e : m * 1 = m := Nat.mul_one m
        rw [e] at hnx; exact hnx
      obtain ⟨z, hz⟩ : ∃ z, z = xs[m] := ⟨_, rfl⟩
      rw [← hz] at hcell hnxH
      clear hz hnx hrow hrx hrr hrl hroom
      go_wp2
      go_roundw
      case rel => exact ⟨m + 1, by omega, by go_num, hnxH⟩
      case measure => simp [intOf]; omega
    · have hend := hF.out
      go_wp2
      go_ret
      exact ⟨_, rfl, hend.done IntR.stable (by omega), hend.1⟩
end Go.Proofs.YtkkfkbcdcdifdaaGreatDoor
