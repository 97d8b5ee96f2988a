/- Rows of ops: copies, comparisons, sizes. -/
import Derived.Test.YtcigiilhlealdaaLs
import Derived.Test.YtcigiilhlealdaaMkP
namespace Go.Proofs.Ytcigiilhlealdaa
set_option linter.unusedVariables false
open Go.ChangeShapes Go.WideShapes Go.ChangeAt Go.RowKit

def MopR : Rd OpM := fun _ _ _ _ row x => row = [.int .i64 x.kind, .int .i64 x.a, .int .i64 x.b, .int .i64 x.c]
theorem MopR.stable : Stable MopR := fun _ _ _ _ _ _ _ _ _ h _ _ _ => h

theorem elemT27 : ∃ i z, Try.prog.info? 27 = some i ∧ i.zero = some z ∧ i.size = 4 ∧ i.bytes = 32 := by
  obtain ⟨i0, hi0⟩ : ∃ i, Try.prog.info? 27 = some i := Option.isSome_iff_exists.1 (by kernel_rfl)
  obtain ⟨z, hz⟩ : ∃ z, (Try.prog.info? 27).bind (·.zero) = some z := Option.isSome_iff_exists.1 (by kernel_rfl)
  refine ⟨i0, z, hi0, ?_, ?_, ?_⟩
  · rw [hi0] at hz; exact hz
  · have : (Try.prog.info? 27).map (·.size) = some 4 := by kernel_rfl
    rw [hi0] at this; exact Option.some.inj this
  · have : (Try.prog.info? 27).map (·.bytes) = some 32 := by kernel_rfl
    rw [hi0] at this; exact Option.some.inj this

set_option maxRecDepth 1000000 in
set_option maxHeartbeats 1000000 in
theorem toMop_calls (x : OpM) (base : Nat) : ElemTo 35 4 MopR base x := by
  intro w row hbase hrx hrl
  have hrow : row = [.int .i64 x.kind, .int .i64 x.a, .int .i64 x.b, .int .i64 x.c] := hrx
  subst hrow
  clear hrx hrl hbase
  go_enter Try.func35, Try.ntmps35
  go_wp2
  refine bodyPost_ret (v := .agg #[.int .i64 x.kind, .int .i64 x.a, .int .i64 x.b, .int .i64 x.c]) (results_cell_mid rfl _ _ (w.heap.size + 1) [.int .i64 x.kind, .int .i64 x.a, .int .i64 x.b, .int .i64 x.c] _ rfl (rangeAt_heap (heap_mid3 w _ _ _)) Try.underlying27 rfl (by kernel_rfl)) rfl ⟨[.int .i64 x.kind, .int .i64 x.a, .int .i64 x.b, .int .i64 x.c], rfl, rfl, rfl, rfl, below_3 w _ _ _⟩

set_option maxRecDepth 1000000 in
set_option maxHeartbeats 1000000 in
theorem toMopS_calls (v : Value) (xs : List OpM) (w : World) (base : Nat) (hbase : base ≤ w.heap.size) (ht : ListAt MopR 4 false 0 base w v xs) (hn : xs.length ≤ 1048576) (hel : ∀ x ∈ xs, ElemTo 35 4 MopR base x) :
    Calls Try.prog 14 #[v] w fun e w' => ∃ u, e = .returned u ∧ ListAt MopR 4 true w.heap.size w'.heap.size w' u xs ∧ Below w.heap.size w w' := by
  obtain ⟨i0, z0, hi0, hz0, hz1, hz2⟩ := elemT27
  have hld : (Try.prog.info? 69).map (·.size) = some 4 := by kernel_rfl
  have hst : (Try.prog.info? 27).map (·.size) = some 4 := by kernel_rfl
  have hldH : Hid ((Try.prog.info? 69).map (·.size) = some 4) := hld
  have hstH : Hid ((Try.prog.info? 27).map (·.size) = some 4) := hst
  clear hld hst
  obtain ⟨a, c, rfl⟩ := ht.form
  have helH : Hid (∀ x ∈ xs, ElemTo 35 4 MopR base x) := hel
  have htH : Hid (∀ wr, Below w.heap.size w wr → ListAt MopR 4 false 0 base wr (.slice a xs.length c) xs) := fun wr hw => ht.kept MopR.stable (Nat.le_refl _) (Nat.le_refl _) ((Same.below hw).mono (Nat.zero_le _) hbase)
  have hbH : Hid (base ≤ w.heap.size) := hbase
  clear ht hel hbase
  go_enter Try.func14, Try.ntmps14
  go_wp2_with (refine wpList_make_full _ rfl (.tmp 6) (.tmp 6) 28 rfl w.heap.size 27 i0 z0 4 Try.underlying28 hi0 hz0 hz1 .i64 .i64 xs.length xs.length xs.length rfl rfl rfl rfl (by rw [hz2]; omega) (by unfold maxLen; omega) (Nat.le_refl _) ?_; intro w1 hown1 hgrow1)
  have hFH : Hid (FilledL MopR 4 xs w 0 w1) := FilledL.start hown1 hgrow1
  clear hown1 hgrow1 hi0 hz0 hz1 hz2
  go_loopw [4] (fun i wr => ∃ m : Nat, m ≤ xs.length ∧ i = .int .i64 m ∧ Hid (FilledL MopR 4 xs w m wr)) (fun i _ => xs.length - (intOf i).toNat)
  case atStart => exact ⟨0, Nat.zero_le _, rfl, hFH⟩
  case round =>
    obtain ⟨m, hm, rfl, hF⟩ := hrel
    by_cases hlt : m < xs.length
    · obtain ⟨b, off, row, rfl, hbb, hrl, hrr, hrx⟩ := (htH.out wr hF.out.1).at m hlt
      have hlt' : (m : Int) < (xs.length : Int) := by omega
      have hcall := helH.out xs[m] (List.getElem_mem hlt) wr row (Nat.le_trans hbH.out hF.out.1.size) hrx hrl
      have hcallH : Hid (Calls Try.prog 35 #[.agg row.toArray] wr _) := hcall
      have hrrH : Hid (wr.rangeAt b (off + m * 4) row) := hrr
      have hrlH : Hid (row.length = 4) := hrl
      clear hcall hrr hrl hrx
      go_wp2_with (first
        | (refine wpList_load_mid rfl 69 _ rfl b (off + m * 4) (by first | rfl | (simp; done)) row _ hrrH.out Try.underlying69 rfl (by rw [hrlH.out]; exact hldH.out) ?_)
        | (go_at_call 35; refine hcallH.out.mono ?_; rintro e w2 ⟨row', rfl, hl', hone, hx', hb2⟩)
        | (refine wpList_store_mid rfl 27 _ _ rfl w.heap.size (m * 4) row'.toArray (by first | rfl | (simp; done)) (by first | rfl | (simp; done)) (by simpa [hl'] using hF.out.room hlt hb2) (by simpa [hl'] using hstH.out) hone.all ?_))
      go_roundw
      case rel => exact ⟨m + 1, by omega, by go_num, hF.out.next MopR.stable hlt hb2 hl' hx'⟩
      case measure => simp [intOf]; omega
    · have hend := hF.out
      go_wp2
      go_ret
      exact ⟨_, rfl, hend.done MopR.stable (by omega), hend.1⟩

set_option maxRecDepth 1000000 in
set_option maxHeartbeats 1000000 in
theorem eqMop_calls (x : OpM) : ElemEq 37 4 MopR x := by
  intro w r1 r2 lo1 hi1 lo2 hi2 h1 h2 hx1 hx2 hl1 hl2
  obtain rfl : r1 = [.int .i64 x.kind, .int .i64 x.a, .int .i64 x.b, .int .i64 x.c] := hx1
  obtain rfl : r2 = [.int .i64 x.kind, .int .i64 x.a, .int .i64 x.b, .int .i64 x.c] := hx2
  have b0 : (x.kind != x.kind) = false := by simp
  have b1 : (x.a != x.a) = false := by simp
  have b2 : (x.b != x.b) = false := by simp
  have b3 : (x.c != x.c) = false := by simp
  clear hl1 hl2 h1 h2
  go_enter Try.func37, Try.ntmps37
  go_wp2
  go_ret
  exact ⟨rfl, below_2 _ _ _⟩

set_option maxRecDepth 1000000 in
set_option maxHeartbeats 1000000 in
theorem eqMopS_calls (u v : Value) (xs : List OpM) (w : World) (lo1 hi1 lo2 hi2 : Nat) (h1 : hi1 ≤ w.heap.size) (h2 : hi2 ≤ w.heap.size) (hu : ListAt MopR 4 true lo1 hi1 w u xs) (hv : ListAt MopR 4 true lo2 hi2 w v xs) (hn : xs.length ≤ 1048576) (hel : ∀ x ∈ xs, ElemEq 37 4 MopR x) :
    Calls Try.prog 16 #[u, v] w fun e w' => e = .returned (.bool true) ∧ Below w.heap.size w w' := by
  obtain ⟨a, c, rfl⟩ := hu.form
  obtain ⟨a2, c2, rfl⟩ := hv.form
  have helH : Hid (∀ x ∈ xs, ElemEq 37 4 MopR x) := hel
  have huH : Hid (∀ wr, Below w.heap.size w wr → ListAt MopR 4 true lo1 hi1 wr (.slice a xs.length c) xs) := fun wr hw => hu.kept MopR.stable (Nat.le_refl _) (Nat.le_refl _) ((Same.below hw).mono (Nat.zero_le _) h1)
  have hvH : Hid (∀ wr, Below w.heap.size w wr → ListAt MopR 4 true lo2 hi2 wr (.slice a2 xs.length c2) xs) := fun wr hw => hv.kept MopR.stable (Nat.le_refl _) (Nat.le_refl _) ((Same.below hw).mono (Nat.zero_le _) h2)
  have hhH : Hid (hi1 ≤ w.heap.size ∧ hi2 ≤ w.heap.size) := ⟨h1, h2⟩
  clear hu hv hel h1 h2
  go_enter Try.func16, Try.ntmps16
  go_wp2
  go_loopw [5] (fun i wr => ∃ m : Nat, m ≤ xs.length ∧ i = .int .i64 m ∧ Hid (Below w.heap.size w wr)) (fun i _ => xs.length - (intOf i).toNat)
  case atStart => exact ⟨0, Nat.zero_le _, rfl, Below.refl _ _⟩
  case round =>
    obtain ⟨m, hm, rfl, hB⟩ := hrel
    by_cases hlt : m < xs.length
    · obtain ⟨b, off, r1, rfl, hb1, hl1, hr1, hx1⟩ := (huH.out wr hB.out).at m hlt
      obtain ⟨b', off', r2, rfl, hb2, hl2, hr2, hx2⟩ := (hvH.out wr hB.out).at m hlt
      have hlt' : (m : Int) < (xs.length : Int) := by omega
      have hsz := hB.out.size
      have hcH : Hid (∀ W, Below wr.heap.size wr W → Calls Try.prog 37 #[.agg r1.toArray, .agg r2.toArray] W fun e w' => e = .returned (.bool true) ∧ Below W.heap.size W w') := fun W hW =>
        helH.out xs[m] (List.getElem_mem hlt) W r1 r2 lo1 hi1 lo2 hi2 (by have := hW.size; have := hhH.out.1; omega) (by have := hW.size; have := hhH.out.2; omega)
          (MopR.stable _ _ _ _ _ _ _ _ _ hx1 (Nat.le_refl _) (Nat.le_refl _) ((Same.below hW).mono (Nat.zero_le _) (by have := hhH.out.1; omega)))
          (MopR.stable _ _ _ _ _ _ _ _ _ hx2 (Nat.le_refl _) (Nat.le_refl _) ((Same.below hW).mono (Nat.zero_le _) (by have := hhH.out.2; omega))) hl1 hl2
      obtain ⟨x, hx⟩ : ∃ x, x = xs[m] := ⟨_, rfl⟩
      rw [← hx] at hx1 hx2
      obtain rfl : r1 = [.int .i64 x.kind, .int .i64 x.a, .int .i64 x.b, .int .i64 x.c] := hx1
      obtain rfl : r2 = [.int .i64 x.kind, .int .i64 x.a, .int .i64 x.b, .int .i64 x.c] := hx2
      have hmk : Hid (∀ W, Below wr.heap.size wr W → (Below wr.heap.size wr W ∧ W.cell? ⟨b, off + m * 4, none⟩ = some (.int .i64 x.kind) ∧ W.cell? ⟨b, off + m * 4 + 1, none⟩ = some (.int .i64 x.a) ∧ W.cell? ⟨b, off + m * 4 + 2, none⟩ = some (.int .i64 x.b) ∧ W.cell? ⟨b, off + m * 4 + 3, none⟩ = some (.int .i64 x.c) ∧ W.cell? ⟨b', off' + m * 4, none⟩ = some (.int .i64 x.kind) ∧ W.cell? ⟨b', off' + m * 4 + 1, none⟩ = some (.int .i64 x.a) ∧ W.cell? ⟨b', off' + m * 4 + 2, none⟩ = some (.int .i64 x.b) ∧ W.cell? ⟨b', off' + m * 4 + 3, none⟩ = some (.int .i64 x.c))) := fun W hW => by
        have kp1 := rangeAt_same (Same.below hW) (Nat.zero_le _) (show b < wr.heap.size by have := hhH.out.1; omega) hr1
        have kp2 := rangeAt_same (Same.below hW) (Nat.zero_le _) (show b' < wr.heap.size by have := hhH.out.2; omega) hr2
        exact ⟨hW, kp1 0 _ rfl, kp1 1 _ rfl, kp1 2 _ rfl, kp1 3 _ rfl, kp2 0 _ rfl, kp2 1 _ rfl, kp2 2 _ rfl, kp2 3 _ rfl⟩
      clear hr1 hr2 hl1 hl2 hsz hb1 hb2 hx
      have hS0 := hmk.out wr (Below.refl _ _)
      go_wp2
      go_region_held3 (fun W => Below wr.heap.size wr W ∧ W.cell? ⟨b, off + m * 4, none⟩ = some (.int .i64 x.kind) ∧ W.cell? ⟨b, off + m * 4 + 1, none⟩ = some (.int .i64 x.a) ∧ W.cell? ⟨b, off + m * 4 + 2, none⟩ = some (.int .i64 x.b) ∧ W.cell? ⟨b, off + m * 4 + 3, none⟩ = some (.int .i64 x.c) ∧ W.cell? ⟨b', off' + m * 4, none⟩ = some (.int .i64 x.kind) ∧ W.cell? ⟨b', off' + m * 4 + 1, none⟩ = some (.int .i64 x.a) ∧ W.cell? ⟨b', off' + m * 4 + 2, none⟩ = some (.int .i64 x.b) ∧ W.cell? ⟨b', off' + m * 4 + 3, none⟩ = some (.int .i64 x.c)) (first | assumption | exact hmk.out _ (Below.drew (And.left (by assumption))) | exact hmk.out _ (below_on (And.left (by assumption)) (by assumption))) (first | (go_at_call 37; refine (hcH.out _ (by first | exact Below.refl _ _ | assumption | exact And.left (by assumption))).mono ?_; rintro e w2 ⟨rfl, hb2⟩))
      go_wp2
      go_roundw
      case rel => exact ⟨m + 1, by omega, by go_num, below_on hB.out (by first | assumption | exact And.left (by assumption))⟩
      case measure => simp [intOf]; omega
    · go_wp2
      go_ret
      exact ⟨rfl, hB.out⟩

set_option maxRecDepth 1000000 in
theorem szMopS_calls (x : List OpM) (hn : x.length ≤ 9223372036854775807) : ListSz 13 4 MopR List.length x := by
  intro w u own lo hi l hh ht hl0 hl1
  obtain ⟨a, c, rfl⟩ := ht.form
  clear ht hh
  obtain ⟨n, hnn⟩ : ∃ n, n = x.length := ⟨_, rfl⟩
  rw [← hnn] at hn ⊢
  clear hnn
  by_cases hc : l < n
  · go_enter Try.func13, Try.ntmps13
    go_wp2
    go_ret
    exact ⟨SzQ.neg hc, Below.refl _ _⟩
  · go_enter Try.func13, Try.ntmps13
    go_wp2
    go_ret
    exact ⟨SzQ.pos (by omega) rfl, Below.refl _ _⟩
end Go.Proofs.Ytcigiilhlealdaa
