/- Values and objects: copies, comparisons. -/
import Derived.Test.YtjhlbgohpofmnaaLs
namespace Go.Proofs.Ytjhlbgohpofmnaa
set_option linter.unusedVariables false
open Go.ChangeShapes Go.WideShapes Go.ChangeAt Go.RowKit

structure ValL where
  kind : Int
  n : Int
structure ObjL where
  ty : ByteArray
  text : ByteArray
  vals : List ValL
def ValR : Rd ValL := fun _ _ _ _ row x => row = [.int .i64 x.kind, .int .i64 x.n]
theorem ValR.stable : Stable ValR := fun _ _ _ _ _ _ _ _ _ h _ _ _ => h
def ObjR : Rd ObjL := fun own lo hi w row x => ∃ v, row = [.string x.ty, .string x.text, v] ∧ ListAt ValR 2 own lo hi w v x.vals
theorem ObjR.stable : Stable ObjR := fun _ _ _ _ _ _ _ _ _ ⟨v, hv, hx⟩ h1 h2 hs => ⟨v, hv, hx.kept ValR.stable h1 h2 hs⟩
def ObjL.small (x : ObjL) : Prop := x.vals.length ≤ 1048576
def ObjL.sz (x : ObjL) : Nat := x.ty.size + x.text.size + x.vals.length
def ObjL.upto (x : ObjL) : Prop := x.ty.size ≤ 9223372036854775807 ∧ x.text.size ≤ 9223372036854775807 ∧ x.vals.length ≤ 9223372036854775807

theorem elemT38 : ∃ i z, Try.prog.info? 38 = some i ∧ i.zero = some z ∧ i.size = 2 ∧ i.bytes = 16 := by
  obtain ⟨i0, hi0⟩ : ∃ i, Try.prog.info? 38 = some i := Option.isSome_iff_exists.1 (by kernel_rfl)
  obtain ⟨z, hz⟩ : ∃ z, (Try.prog.info? 38).bind (·.zero) = some z := Option.isSome_iff_exists.1 (by kernel_rfl)
  refine ⟨i0, z, hi0, ?_, ?_, ?_⟩
  · rw [hi0] at hz; exact hz
  · have : (Try.prog.info? 38).map (·.size) = some 2 := by kernel_rfl
    rw [hi0] at this; exact Option.some.inj this
  · have : (Try.prog.info? 38).map (·.bytes) = some 16 := by kernel_rfl
    rw [hi0] at this; exact Option.some.inj this

theorem elemT36 : ∃ i z, Try.prog.info? 36 = some i ∧ i.zero = some z ∧ i.size = 3 ∧ i.bytes = 56 := by
  obtain ⟨i0, hi0⟩ : ∃ i, Try.prog.info? 36 = some i := Option.isSome_iff_exists.1 (by kernel_rfl)
  obtain ⟨z, hz⟩ : ∃ z, (Try.prog.info? 36).bind (·.zero) = some z := Option.isSome_iff_exists.1 (by kernel_rfl)
  refine ⟨i0, z, hi0, ?_, ?_, ?_⟩
  · rw [hi0] at hz; exact hz
  · have : (Try.prog.info? 36).map (·.size) = some 3 := by kernel_rfl
    rw [hi0] at this; exact Option.some.inj this
  · have : (Try.prog.info? 36).map (·.bytes) = some 56 := by kernel_rfl
    rw [hi0] at this; exact Option.some.inj this

theorem elemT2 : ∃ i z, Try.prog.info? 2 = some i ∧ i.zero = some z ∧ i.size = 1 ∧ i.bytes = 8 := by
  obtain ⟨i0, hi0⟩ : ∃ i, Try.prog.info? 2 = some i := Option.isSome_iff_exists.1 (by kernel_rfl)
  obtain ⟨z, hz⟩ : ∃ z, (Try.prog.info? 2).bind (·.zero) = some z := Option.isSome_iff_exists.1 (by kernel_rfl)
  refine ⟨i0, z, hi0, ?_, ?_, ?_⟩
  · rw [hi0] at hz; exact hz
  · have : (Try.prog.info? 2).map (·.size) = some 1 := by kernel_rfl
    rw [hi0] at this; exact Option.some.inj this
  · have : (Try.prog.info? 2).map (·.bytes) = some 8 := by kernel_rfl
    rw [hi0] at this; exact Option.some.inj this

set_option maxRecDepth 1000000 in
set_option maxHeartbeats 1000000 in
theorem toVal_calls (x : ValL) (base : Nat) : ElemTo 20 2 ValR base x := by
  intro w row hbase hrx hrl
  have hrow : row = [.int .i64 x.kind, .int .i64 x.n] := hrx
  subst hrow
  clear hrx hrl hbase
  go_enter Try.func20, Try.ntmps20
  go_wp2
  refine bodyPost_ret (v := .agg #[.int .i64 x.kind, .int .i64 x.n]) (results_cell_mid rfl _ _ (w.heap.size + 1) [.int .i64 x.kind, .int .i64 x.n] _ rfl (rangeAt_heap (heap_mid3 w _ _ _)) Try.underlying38 rfl (by kernel_rfl)) rfl ⟨[.int .i64 x.kind, .int .i64 x.n], rfl, rfl, rfl, rfl, below_3 w _ _ _⟩

set_option maxRecDepth 1000000 in
set_option maxHeartbeats 1000000 in
theorem toValS_calls (v : Value) (xs : List ValL) (w : World) (base : Nat) (hbase : base ≤ w.heap.size) (ht : ListAt ValR 2 false 0 base w v xs) (hn : xs.length ≤ 1048576) (hel : ∀ x ∈ xs, ElemTo 20 2 ValR base x) :
    Calls Try.prog 15 #[v] w fun e w' => ∃ u, e = .returned u ∧ ListAt ValR 2 true w.heap.size w'.heap.size w' u xs ∧ Below w.heap.size w w' := by
  obtain ⟨i0, z0, hi0, hz0, hz1, hz2⟩ := elemT38
  have hld : (Try.prog.info? 61).map (·.size) = some 2 := by kernel_rfl
  have hst : (Try.prog.info? 38).map (·.size) = some 2 := by kernel_rfl
  have hldH : Hid ((Try.prog.info? 61).map (·.size) = some 2) := hld
  have hstH : Hid ((Try.prog.info? 38).map (·.size) = some 2) := hst
  clear hld hst
  obtain ⟨a, c, rfl⟩ := ht.form
  have helH : Hid (∀ x ∈ xs, ElemTo 20 2 ValR base x) := hel
  have htH : Hid (∀ wr, Below w.heap.size w wr → ListAt ValR 2 false 0 base wr (.slice a xs.length c) xs) := fun wr hw => ht.kept ValR.stable (Nat.le_refl _) (Nat.le_refl _) ((Same.below hw).mono (Nat.zero_le _) hbase)
  have hbH : Hid (base ≤ w.heap.size) := hbase
  clear ht hel hbase
  go_enter Try.func15, Try.ntmps15
  go_wp2_with (refine wpList_make_full _ rfl (.tmp 6) (.tmp 6) 34 rfl w.heap.size 38 i0 z0 2 Try.underlying34 hi0 hz0 hz1 .i64 .i64 xs.length xs.length xs.length rfl rfl rfl rfl (by rw [hz2]; omega) (by unfold maxLen; omega) (Nat.le_refl _) ?_; intro w1 hown1 hgrow1)
  have hFH : Hid (FilledL ValR 2 xs w 0 w1) := FilledL.start hown1 hgrow1
  clear hown1 hgrow1 hi0 hz0 hz1 hz2
  go_loopw [4] (fun i wr => ∃ m : Nat, m ≤ xs.length ∧ i = .int .i64 m ∧ Hid (FilledL ValR 2 xs w m wr)) (fun i _ => xs.length - (intOf i).toNat)
  case atStart => exact ⟨0, Nat.zero_le _, rfl, hFH⟩
  case round =>
    obtain ⟨m, hm, rfl, hF⟩ := hrel
    by_cases hlt : m < xs.length
    · obtain ⟨b, off, row, rfl, hbb, hrl, hrr, hrx⟩ := (htH.out wr hF.out.1).at m hlt
      have hlt' : (m : Int) < (xs.length : Int) := by omega
      have hcall := helH.out xs[m] (List.getElem_mem hlt) wr row (Nat.le_trans hbH.out hF.out.1.size) hrx hrl
      have hcallH : Hid (Calls Try.prog 20 #[.agg row.toArray] wr _) := hcall
      have hrrH : Hid (wr.rangeAt b (off + m * 2) row) := hrr
      have hrlH : Hid (row.length = 2) := hrl
      clear hcall hrr hrl hrx
      go_wp2_with (first
        | (refine wpList_load_mid rfl 61 _ rfl b (off + m * 2) (by first | rfl | (simp; done)) row _ hrrH.out Try.underlying61 rfl (by rw [hrlH.out]; exact hldH.out) ?_)
        | (go_at_call 20; refine hcallH.out.mono ?_; rintro e w2 ⟨row', rfl, hl', hone, hx', hb2⟩)
        | (refine wpList_store_mid rfl 38 _ _ rfl w.heap.size (m * 2) row'.toArray (by first | rfl | (simp; done)) (by first | rfl | (simp; done)) (by simpa [hl'] using hF.out.room hlt hb2) (by simpa [hl'] using hstH.out) hone.all ?_))
      go_roundw
      case rel => exact ⟨m + 1, by omega, by go_num, hF.out.next ValR.stable hlt hb2 hl' hx'⟩
      case measure => simp [intOf]; omega
    · have hend := hF.out
      go_wp2
      go_ret
      exact ⟨_, rfl, hend.done ValR.stable (by omega), hend.1⟩

set_option maxRecDepth 1000000 in
set_option maxHeartbeats 4000000 in
theorem toObj_calls (x : ObjL) (base : Nat) (hy : x.small) : ElemTo 10 3 ObjR base x := by
  intro w row hbase hrx hrl
  have hinf : Hid ((Try.prog.info? 36).map (·.size) = some 3) := by show (Try.prog.info? 36).map (·.size) = some 3; kernel_rfl
  obtain ⟨v2, rfl, h2⟩ := hrx
  have c2H : Hid (∀ W, Below w.heap.size w W → Calls Try.prog 15 #[v2] W fun e w' => ∃ u, e = .returned u ∧ ListAt ValR 2 true W.heap.size w'.heap.size w' u x.vals ∧ Below W.heap.size W w') := fun W hW => toValS_calls v2 x.vals W base (Nat.le_trans hbase hW.size) (h2.kept ValR.stable (Nat.le_refl _) (Nat.le_refl _) ((Same.below hW).mono (Nat.zero_le _) hbase)) hy (fun z _ => toVal_calls z base)
  obtain ⟨a2, n2, rfl⟩ := h2.form
  obtain ⟨len2, hlen2⟩ : ∃ n, n = (x.vals).length := ⟨_, rfl⟩
  have hlen2H : Hid (len2 = (x.vals).length) := hlen2
  rw [← hlen2] at c2H ⊢
  clear hrl hbase h2 hlen2
  go_enter Try.func10, Try.ntmps10
  go_wp2_with fail
  obtain ⟨W0, hW0⟩ : ∃ W : World, W = ((w.alloc (.cells #[.string x.ty, .string x.text, .slice a2 len2 n2] 32)).alloc (.cells #[.string ⟨#[]⟩, .string ⟨#[]⟩, .slice none 0 0] 36)).alloc (.cells #[.string x.ty, .string x.text, .slice none 0 0] 36) := ⟨_, rfl⟩
  rw [← hW0]
  have r0 : Hid (Rec3 w W0 3 [.string x.ty, .string x.text, .slice a2 len2 n2] [.string x.ty, .string x.text, .slice none 0 0]) := Rec3.start hW0 rfl rfl
  clear hW0
  refine (c2H.out W0 r0.out.hb).mono ?_
  rintro e w1 ⟨u2, rfl, g2, hb1⟩
  obtain ⟨b2, m2, rfl⟩ := g2.form
  rw [← hlen2H.out] at g2 ⊢
  have rc1 : Hid (Rec3 w w1 3 [.string x.ty, .string x.text, .slice a2 len2 n2] [.string x.ty, .string x.text, .slice none 0 0]) := r0.out.call hb1
  have g2H : Hid (ListAt ValR 2 true (w.heap.size + 3) w1.heap.size w1 (.slice b2 len2 m2) x.vals) := g2.kept ValR.stable r0.out.sz (Nat.le_refl _) (Same.refl _ _ _)
  obtain ⟨⟨q1_2, xo1_2⟩, xf1_2⟩ := rc1.out.cellO 2 (by omega)
  clear g2 hb1
  have r1 : Hid (Rec3 w (w1.setCell ⟨w.heap.size + 1 + 1, 2, none⟩ (.slice b2 len2 m2)) 3 [.string x.ty, .string x.text, .slice a2 len2 n2] [.string x.ty, .string x.text, .slice b2 len2 m2]) := (rc1.out.set 2 (.slice b2 len2 m2) (by omega) rfl)
  have g2H : Hid (ListAt ValR 2 true (w.heap.size + 3) (w1.setCell ⟨w.heap.size + 1 + 1, 2, none⟩ (.slice b2 len2 m2)).heap.size (w1.setCell ⟨w.heap.size + 1 + 1, 2, none⟩ (.slice b2 len2 m2)) (.slice b2 len2 m2) x.vals) := g2H.out.kept ValR.stable (Nat.le_refl _) (by simp) (Same.trans (Same.refl _ _ _) (same_setCell _ _ _ _ (.inl (by omega))))
  go_wp2_with (first | (refine wpList_load_mid rfl 36 _ rfl (w.heap.size + 1 + 1) 0 rfl [.string x.ty, .string x.text, .slice b2 len2 m2] _ r1.out.o Try.underlying36 rfl hinf.out ?_) | (refine wpList_store_mid rfl 36 _ _ rfl (w.heap.size + 1) 0 #[.string x.ty, .string x.text, .slice b2 len2 m2] rfl rfl r1.out.z hinf.out (OneCells.all (row := [.string x.ty, .string x.text, .slice b2 len2 m2]) rfl) ?_))
  refine bodyPost_ret (v := .agg #[.string x.ty, .string x.text, .slice b2 len2 m2]) (results_cell_mid rfl _ _ (w.heap.size + 1) [.string x.ty, .string x.text, .slice b2 len2 m2] _ rfl (World.rangeAt_setCells_same _ _ _ _ r1.out.z) Try.underlying36 rfl hinf.out) rfl ⟨[.string x.ty, .string x.text, .slice b2 len2 m2], rfl, rfl, rfl, ⟨_, rfl, ?_⟩, below_setCells _ (by omega) _ _ _ r1.out.hb⟩
  · exact g2H.out.kept ValR.stable (by omega) (by rw [size_setCells]; exact Nat.le_refl _) (Same.setCells _ _ _ _ (.inl (by omega)))

set_option maxRecDepth 1000000 in
set_option maxHeartbeats 1000000 in
theorem toObjS_calls (v : Value) (xs : List ObjL) (w : World) (base : Nat) (hbase : base ≤ w.heap.size) (ht : ListAt ObjR 3 false 0 base w v xs) (hn : xs.length ≤ 1048576) (hel : ∀ x ∈ xs, ElemTo 10 3 ObjR base x) :
    Calls Try.prog 6 #[v] w fun e w' => ∃ u, e = .returned u ∧ ListAt ObjR 3 true w.heap.size w'.heap.size w' u xs ∧ Below w.heap.size w w' := by
  obtain ⟨i0, z0, hi0, hz0, hz1, hz2⟩ := elemT36
  have hld : (Try.prog.info? 32).map (·.size) = some 3 := by kernel_rfl
  have hst : (Try.prog.info? 36).map (·.size) = some 3 := by kernel_rfl
  have hldH : Hid ((Try.prog.info? 32).map (·.size) = some 3) := hld
  have hstH : Hid ((Try.prog.info? 36).map (·.size) = some 3) := hst
  clear hld hst
  obtain ⟨a, c, rfl⟩ := ht.form
  have helH : Hid (∀ x ∈ xs, ElemTo 10 3 ObjR base x) := hel
  have htH : Hid (∀ wr, Below w.heap.size w wr → ListAt ObjR 3 false 0 base wr (.slice a xs.length c) xs) := fun wr hw => ht.kept ObjR.stable (Nat.le_refl _) (Nat.le_refl _) ((Same.below hw).mono (Nat.zero_le _) hbase)
  have hbH : Hid (base ≤ w.heap.size) := hbase
  clear ht hel hbase
  go_enter Try.func6, Try.ntmps6
  go_wp2_with (refine wpList_make_full _ rfl (.tmp 6) (.tmp 6) 25 rfl w.heap.size 36 i0 z0 3 Try.underlying25 hi0 hz0 hz1 .i64 .i64 xs.length xs.length xs.length rfl rfl rfl rfl (by rw [hz2]; omega) (by unfold maxLen; omega) (Nat.le_refl _) ?_; intro w1 hown1 hgrow1)
  have hFH : Hid (FilledL ObjR 3 xs w 0 w1) := FilledL.start hown1 hgrow1
  clear hown1 hgrow1 hi0 hz0 hz1 hz2
  go_loopw [4] (fun i wr => ∃ m : Nat, m ≤ xs.length ∧ i = .int .i64 m ∧ Hid (FilledL ObjR 3 xs w m wr)) (fun i _ => xs.length - (intOf i).toNat)
  case atStart => exact ⟨0, Nat.zero_le _, rfl, hFH⟩
  case round =>
    obtain ⟨m, hm, rfl, hF⟩ := hrel
    by_cases hlt : m < xs.length
    · obtain ⟨b, off, row, rfl, hbb, hrl, hrr, hrx⟩ := (htH.out wr hF.out.1).at m hlt
      have hlt' : (m : Int) < (xs.length : Int) := by omega
      have hcall := helH.out xs[m] (List.getElem_mem hlt) wr row (Nat.le_trans hbH.out hF.out.1.size) hrx hrl
      have hcallH : Hid (Calls Try.prog 10 #[.agg row.toArray] wr _) := hcall
      have hrrH : Hid (wr.rangeAt b (off + m * 3) row) := hrr
      have hrlH : Hid (row.length = 3) := hrl
      clear hcall hrr hrl hrx
      go_wp2_with (first
        | (refine wpList_load_mid rfl 32 _ rfl b (off + m * 3) (by first | rfl | (simp; done)) row _ hrrH.out Try.underlying32 rfl (by rw [hrlH.out]; exact hldH.out) ?_)
        | (go_at_call 10; refine hcallH.out.mono ?_; rintro e w2 ⟨row', rfl, hl', hone, hx', hb2⟩)
        | (refine wpList_store_mid rfl 36 _ _ rfl w.heap.size (m * 3) row'.toArray (by first | rfl | (simp; done)) (by first | rfl | (simp; done)) (by simpa [hl'] using hF.out.room hlt hb2) (by simpa [hl'] using hstH.out) hone.all ?_))
      go_roundw
      case rel => exact ⟨m + 1, by omega, by go_num, hF.out.next ObjR.stable hlt hb2 hl' hx'⟩
      case measure => simp [intOf]; omega
    · have hend := hF.out
      go_wp2
      go_ret
      exact ⟨_, rfl, hend.done ObjR.stable (by omega), hend.1⟩

set_option maxRecDepth 1000000 in
set_option maxHeartbeats 1000000 in
theorem eqVal_calls (x : ValL) : ElemEq 21 2 ValR x := by
  intro w r1 r2 lo1 hi1 lo2 hi2 h1 h2 hx1 hx2 hl1 hl2
  obtain rfl : r1 = [.int .i64 x.kind, .int .i64 x.n] := hx1
  obtain rfl : r2 = [.int .i64 x.kind, .int .i64 x.n] := hx2
  have b0 : (x.kind != x.kind) = false := by simp
  have b1 : (x.n != x.n) = false := by simp
  clear hl1 hl2 h1 h2
  go_enter Try.func21, Try.ntmps21
  go_wp2
  go_ret
  exact ⟨rfl, below_2 _ _ _⟩

set_option maxRecDepth 1000000 in
set_option maxHeartbeats 1000000 in
theorem eqValS_calls (u v : Value) (xs : List ValL) (w : World) (lo1 hi1 lo2 hi2 : Nat) (h1 : hi1 ≤ w.heap.size) (h2 : hi2 ≤ w.heap.size) (hu : ListAt ValR 2 true lo1 hi1 w u xs) (hv : ListAt ValR 2 true lo2 hi2 w v xs) (hn : xs.length ≤ 1048576) (hel : ∀ x ∈ xs, ElemEq 21 2 ValR x) :
    Calls Try.prog 19 #[u, v] w fun e w' => e = .returned (.bool true) ∧ Below w.heap.size w w' := by
  obtain ⟨a, c, rfl⟩ := hu.form
  obtain ⟨a2, c2, rfl⟩ := hv.form
  have helH : Hid (∀ x ∈ xs, ElemEq 21 2 ValR x) := hel
  have huH : Hid (∀ wr, Below w.heap.size w wr → ListAt ValR 2 true lo1 hi1 wr (.slice a xs.length c) xs) := fun wr hw => hu.kept ValR.stable (Nat.le_refl _) (Nat.le_refl _) ((Same.below hw).mono (Nat.zero_le _) h1)
  have hvH : Hid (∀ wr, Below w.heap.size w wr → ListAt ValR 2 true lo2 hi2 wr (.slice a2 xs.length c2) xs) := fun wr hw => hv.kept ValR.stable (Nat.le_refl _) (Nat.le_refl _) ((Same.below hw).mono (Nat.zero_le _) h2)
  have hhH : Hid (hi1 ≤ w.heap.size ∧ hi2 ≤ w.heap.size) := ⟨h1, h2⟩
  clear hu hv hel h1 h2
  go_enter Try.func19, Try.ntmps19
  go_wp2
  go_loopw [5] (fun i wr => ∃ m : Nat, m ≤ xs.length ∧ i = .int .i64 m ∧ Hid (Below w.heap.size w wr)) (fun i _ => xs.length - (intOf i).toNat)
  case atStart => exact ⟨0, Nat.zero_le _, rfl, Below.refl _ _⟩
  case round =>
    obtain ⟨m, hm, rfl, hB⟩ := hrel
    by_cases hlt : m < xs.length
    · obtain ⟨b, off, r1, rfl, hb1, hl1, hr1, hx1⟩ := (huH.out wr hB.out).at m hlt
      obtain ⟨b', off', r2, rfl, hb2, hl2, hr2, hx2⟩ := (hvH.out wr hB.out).at m hlt
      have hlt' : (m : Int) < (xs.length : Int) := by omega
      have hsz := hB.out.size
      have hcH : Hid (∀ W, Below wr.heap.size wr W → Calls Try.prog 21 #[.agg r1.toArray, .agg r2.toArray] W fun e w' => e = .returned (.bool true) ∧ Below W.heap.size W w') := fun W hW =>
        helH.out xs[m] (List.getElem_mem hlt) W r1 r2 lo1 hi1 lo2 hi2 (by have := hW.size; have := hhH.out.1; omega) (by have := hW.size; have := hhH.out.2; omega)
          (ValR.stable _ _ _ _ _ _ _ _ _ hx1 (Nat.le_refl _) (Nat.le_refl _) ((Same.below hW).mono (Nat.zero_le _) (by have := hhH.out.1; omega)))
          (ValR.stable _ _ _ _ _ _ _ _ _ hx2 (Nat.le_refl _) (Nat.le_refl _) ((Same.below hW).mono (Nat.zero_le _) (by have := hhH.out.2; omega))) hl1 hl2
      obtain ⟨x, hx⟩ : ∃ x, x = xs[m] := ⟨_, rfl⟩
      rw [← hx] at hx1 hx2
      obtain rfl : r1 = [.int .i64 x.kind, .int .i64 x.n] := hx1
      obtain rfl : r2 = [.int .i64 x.kind, .int .i64 x.n] := hx2
      have hmk : Hid (∀ W, Below wr.heap.size wr W → (Below wr.heap.size wr W ∧ W.cell? ⟨b, off + m * 2, none⟩ = some (.int .i64 x.kind) ∧ W.cell? ⟨b, off + m * 2 + 1, none⟩ = some (.int .i64 x.n) ∧ W.cell? ⟨b', off' + m * 2, none⟩ = some (.int .i64 x.kind) ∧ W.cell? ⟨b', off' + m * 2 + 1, none⟩ = some (.int .i64 x.n))) := fun W hW => by
        have kp1 := rangeAt_same (Same.below hW) (Nat.zero_le _) (show b < wr.heap.size by have := hhH.out.1; omega) hr1
        have kp2 := rangeAt_same (Same.below hW) (Nat.zero_le _) (show b' < wr.heap.size by have := hhH.out.2; omega) hr2
        exact ⟨hW, kp1 0 _ rfl, kp1 1 _ rfl, kp2 0 _ rfl, kp2 1 _ rfl⟩
      clear hr1 hr2 hl1 hl2 hsz hb1 hb2 hx
      have hS0 := hmk.out wr (Below.refl _ _)
      go_wp2
      go_region_held3 (fun W => Below wr.heap.size wr W ∧ W.cell? ⟨b, off + m * 2, none⟩ = some (.int .i64 x.kind) ∧ W.cell? ⟨b, off + m * 2 + 1, none⟩ = some (.int .i64 x.n) ∧ W.cell? ⟨b', off' + m * 2, none⟩ = some (.int .i64 x.kind) ∧ W.cell? ⟨b', off' + m * 2 + 1, none⟩ = some (.int .i64 x.n)) (first | assumption | exact hmk.out _ (Below.drew (And.left (by assumption))) | exact hmk.out _ (below_on (And.left (by assumption)) (by assumption))) (first | (go_at_call 21; refine (hcH.out _ (by first | exact Below.refl _ _ | assumption | exact And.left (by assumption))).mono ?_; rintro e w2 ⟨rfl, hb2⟩))
      go_wp2
      go_roundw
      case rel => exact ⟨m + 1, by omega, by go_num, below_on hB.out (by first | assumption | exact And.left (by assumption))⟩
      case measure => simp [intOf]; omega
    · go_wp2
      go_ret
      exact ⟨rfl, hB.out⟩

set_option maxRecDepth 1000000 in
set_option maxHeartbeats 4000000 in
theorem eqObj_calls (x : ObjL) (hy : x.small) : ElemEq 13 3 ObjR x := by
  intro w r1 r2 lo1 hi1 lo2 hi2 h1 h2 hx1 hx2 hl1 hl2
  obtain ⟨v1_2, rfl, g1_2⟩ := hx1
  obtain ⟨v2_2, rfl, g2_2⟩ := hx2
  have c2 : Hid (∀ W, Below w.heap.size w W → Calls Try.prog 19 #[v1_2, v2_2] W fun e w' => e = .returned (.bool true) ∧ Below W.heap.size W w') := fun W hW =>
    eqValS_calls v1_2 v2_2 x.vals W lo1 hi1 lo2 hi2 (Nat.le_trans h1 hW.size) (Nat.le_trans h2 hW.size) (g1_2.kept ValR.stable (Nat.le_refl _) (Nat.le_refl _) ((Same.below hW).mono (Nat.zero_le _) h1)) (g2_2.kept ValR.stable (Nat.le_refl _) (Nat.le_refl _) ((Same.below hW).mono (Nat.zero_le _) h2)) hy (fun z _ => eqVal_calls z)
  obtain ⟨a1_2, k1_2, rfl⟩ := g1_2.form
  obtain ⟨a2_2, k2_2, rfl⟩ := g2_2.form
  have b0 : (x.ty.toList != x.ty.toList) = false := by simp
  have b1 : (x.text.toList != x.text.toList) = false := by simp
  clear hl1 hl2 h1 h2 g1_2 g2_2
  go_enter Try.func13, Try.ntmps13
  go_wp2_with fail
  obtain ⟨W0, hW0⟩ : ∃ W : World, W = (w.alloc (.cells #[.string x.ty, .string x.text, .slice a1_2 x.vals.length k1_2] 36)).alloc (.cells #[.string x.ty, .string x.text, .slice a2_2 x.vals.length k2_2] 36) := ⟨_, rfl⟩
  rw [← hW0]
  have r0 : Hid (Rec2 w W0 [.string x.ty, .string x.text, .slice a1_2 x.vals.length k1_2] [.string x.ty, .string x.text, .slice a2_2 x.vals.length k2_2]) := Rec2.start hW0
  clear hW0
  refine (c2.out W0 r0.out.hb).mono ?_
  rintro e w1 ⟨rfl, hb1⟩
  have r1 : Hid (Rec2 w w1 [.string x.ty, .string x.text, .slice a1_2 x.vals.length k1_2] [.string x.ty, .string x.text, .slice a2_2 x.vals.length k2_2]) := r0.out.call hb1
  clear hb1
  go_wp2
  go_ret
  exact ⟨rfl, r1.out.hb⟩

set_option maxRecDepth 1000000 in
set_option maxHeartbeats 1000000 in
theorem eqObjS_calls (u v : Value) (xs : List ObjL) (w : World) (lo1 hi1 lo2 hi2 : Nat) (h1 : hi1 ≤ w.heap.size) (h2 : hi2 ≤ w.heap.size) (hu : ListAt ObjR 3 true lo1 hi1 w u xs) (hv : ListAt ObjR 3 true lo2 hi2 w v xs) (hn : xs.length ≤ 1048576) (hel : ∀ x ∈ xs, ElemEq 13 3 ObjR x) :
    Calls Try.prog 8 #[u, v] w fun e w' => e = .returned (.bool true) ∧ Below w.heap.size w w' := by
  obtain ⟨a, c, rfl⟩ := hu.form
  obtain ⟨a2, c2, rfl⟩ := hv.form
  have helH : Hid (∀ x ∈ xs, ElemEq 13 3 ObjR x) := hel
  have huH : Hid (∀ wr, Below w.heap.size w wr → ListAt ObjR 3 true lo1 hi1 wr (.slice a xs.length c) xs) := fun wr hw => hu.kept ObjR.stable (Nat.le_refl _) (Nat.le_refl _) ((Same.below hw).mono (Nat.zero_le _) h1)
  have hvH : Hid (∀ wr, Below w.heap.size w wr → ListAt ObjR 3 true lo2 hi2 wr (.slice a2 xs.length c2) xs) := fun wr hw => hv.kept ObjR.stable (Nat.le_refl _) (Nat.le_refl _) ((Same.below hw).mono (Nat.zero_le _) h2)
  have hhH : Hid (hi1 ≤ w.heap.size ∧ hi2 ≤ w.heap.size) := ⟨h1, h2⟩
  clear hu hv hel h1 h2
  go_enter Try.func8, Try.ntmps8
  go_wp2
  go_loopw [5] (fun i wr => ∃ m : Nat, m ≤ xs.length ∧ i = .int .i64 m ∧ Hid (Below w.heap.size w wr)) (fun i _ => xs.length - (intOf i).toNat)
  case atStart => exact ⟨0, Nat.zero_le _, rfl, Below.refl _ _⟩
  case round =>
    obtain ⟨m, hm, rfl, hB⟩ := hrel
    by_cases hlt : m < xs.length
    · obtain ⟨b, off, r1, rfl, hb1, hl1, hr1, hx1⟩ := (huH.out wr hB.out).at m hlt
      obtain ⟨b', off', r2, rfl, hb2, hl2, hr2, hx2⟩ := (hvH.out wr hB.out).at m hlt
      have hlt' : (m : Int) < (xs.length : Int) := by omega
      have hsz := hB.out.size
      have hcH : Hid (∀ W, Below wr.heap.size wr W → Calls Try.prog 13 #[.agg r1.toArray, .agg r2.toArray] W fun e w' => e = .returned (.bool true) ∧ Below W.heap.size W w') := fun W hW =>
        helH.out xs[m] (List.getElem_mem hlt) W r1 r2 lo1 hi1 lo2 hi2 (by have := hW.size; have := hhH.out.1; omega) (by have := hW.size; have := hhH.out.2; omega)
          (ObjR.stable _ _ _ _ _ _ _ _ _ hx1 (Nat.le_refl _) (Nat.le_refl _) ((Same.below hW).mono (Nat.zero_le _) (by have := hhH.out.1; omega)))
          (ObjR.stable _ _ _ _ _ _ _ _ _ hx2 (Nat.le_refl _) (Nat.le_refl _) ((Same.below hW).mono (Nat.zero_le _) (by have := hhH.out.2; omega))) hl1 hl2
      obtain ⟨x, hx⟩ : ∃ x, x = xs[m] := ⟨_, rfl⟩
      rw [← hx] at hx1 hx2
      obtain ⟨p1, rfl, -⟩ := hx1
      obtain ⟨p2, rfl, -⟩ := hx2
      have hmk : Hid (∀ W, Below wr.heap.size wr W → (Below wr.heap.size wr W ∧ W.cell? ⟨b, off + m * 3, none⟩ = some (.string x.ty) ∧ W.cell? ⟨b, off + m * 3 + 1, none⟩ = some (.string x.text) ∧ W.cell? ⟨b, off + m * 3 + 2, none⟩ = some (p1) ∧ W.cell? ⟨b', off' + m * 3, none⟩ = some (.string x.ty) ∧ W.cell? ⟨b', off' + m * 3 + 1, none⟩ = some (.string x.text) ∧ W.cell? ⟨b', off' + m * 3 + 2, none⟩ = some (p2))) := fun W hW => by
        have kp1 := rangeAt_same (Same.below hW) (Nat.zero_le _) (show b < wr.heap.size by have := hhH.out.1; omega) hr1
        have kp2 := rangeAt_same (Same.below hW) (Nat.zero_le _) (show b' < wr.heap.size by have := hhH.out.2; omega) hr2
        exact ⟨hW, kp1 0 _ rfl, kp1 1 _ rfl, kp1 2 _ rfl, kp2 0 _ rfl, kp2 1 _ rfl, kp2 2 _ rfl⟩
      clear hr1 hr2 hl1 hl2 hsz hb1 hb2 hx
      have hS0 := hmk.out wr (Below.refl _ _)
      go_wp2
      go_region_held3 (fun W => Below wr.heap.size wr W ∧ W.cell? ⟨b, off + m * 3, none⟩ = some (.string x.ty) ∧ W.cell? ⟨b, off + m * 3 + 1, none⟩ = some (.string x.text) ∧ W.cell? ⟨b, off + m * 3 + 2, none⟩ = some (p1) ∧ W.cell? ⟨b', off' + m * 3, none⟩ = some (.string x.ty) ∧ W.cell? ⟨b', off' + m * 3 + 1, none⟩ = some (.string x.text) ∧ W.cell? ⟨b', off' + m * 3 + 2, none⟩ = some (p2)) (first | assumption | exact hmk.out _ (Below.drew (And.left (by assumption))) | exact hmk.out _ (below_on (And.left (by assumption)) (by assumption))) (first | (go_at_call 13; refine (hcH.out _ (by first | exact Below.refl _ _ | assumption | exact And.left (by assumption))).mono ?_; rintro e w2 ⟨rfl, hb2⟩))
      go_wp2
      go_roundw
      case rel => exact ⟨m + 1, by omega, by go_num, below_on hB.out (by first | assumption | exact And.left (by assumption))⟩
      case measure => simp [intOf]; omega
    · go_wp2
      go_ret
      exact ⟨rfl, hB.out⟩

set_option maxRecDepth 1000000 in
theorem szValS_calls (x : List ValL) (hn : x.length ≤ 9223372036854775807) : ListSz 14 2 ValR List.length x := by
  intro w u own lo hi l hh ht hl0 hl1
  obtain ⟨a, c, rfl⟩ := ht.form
  clear ht hh
  obtain ⟨n, hnn⟩ : ∃ n, n = x.length := ⟨_, rfl⟩
  rw [← hnn] at hn ⊢
  clear hnn
  by_cases hc : l < n
  · go_enter Try.func14, Try.ntmps14
    go_wp2
    go_ret
    exact ⟨SzQ.neg hc, Below.refl _ _⟩
  · go_enter Try.func14, Try.ntmps14
    go_wp2
    go_ret
    exact ⟨SzQ.pos (by omega) rfl, Below.refl _ _⟩
end Go.Proofs.Ytjhlbgohpofmnaa
