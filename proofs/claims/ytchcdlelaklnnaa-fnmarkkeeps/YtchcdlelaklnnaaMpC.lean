/- The marker's objects as plain objects: impl.changed, MarkReached$1. -/
import Derived.Test.YtchcdlelaklnnaaMaA
import Derived.Test.YtchcdlelaklnnaaGpV
namespace Go.Proofs.Ytchcdlelaklnnaa
set_option linter.unusedVariables false
open Go.ChangeShapes Go.WideShapes Go.ChangeAt Go.RowKit

def MobV.row5 (m : MobV) : List Value := [.int .i64 m.id, .int .i64 0, .int .i64 0, .int .i64 0, .slice m.fa m.fn m.fc]
set_option maxRecDepth 100000 in
theorem clo_calls (m : MobV) (w : World) : Calls Try.prog 19 #[.agg #[.int .i64 m.id, .slice m.fa m.fn m.fc, .int .i64 m.col]] w fun e w' => e = .returned (.agg m.row5.toArray) ∧ Below w.heap.size w w' := by
  have hinf : Hid ((Try.prog.info? 51).map (·.size) = some 5) := by show (Try.prog.info? 51).map (·.size) = some 5; kernel_rfl
  go_enter Try.func19, Try.ntmps19
  go_wp2
  have hr := rangeAt_heap (heap_alloc_new (w.alloc (.cells #[.int .i64 m.id, .slice m.fa m.fn m.fc, .int .i64 m.col] 38)) (.cells #[.int .i64 m.id, .int .i64 0, .int .i64 0, .int .i64 0, .slice m.fa m.fn m.fc] 51))
  rw [World.size_alloc] at hr
  refine bodyPost_ret (v := .agg #[.int .i64 m.id, .int .i64 0, .int .i64 0, .int .i64 0, .slice m.fa m.fn m.fc]) (results_cell_mid rfl _ _ (w.heap.size + 1) [.int .i64 m.id, .int .i64 0, .int .i64 0, .int .i64 0, .slice m.fa m.fn m.fc] _ rfl hr Try.underlying51 rfl hinf.out) rfl ⟨rfl, ?_⟩
  exact ((Below.refl _ _).alloc (Nat.le_refl _) _).alloc (by simp) _
set_option maxRecDepth 1000000 in
set_option maxHeartbeats 1000000 in
theorem changed_calls (ms : List MobV) (a0 : Option Addr) (c : Nat) (w : World) (hr : ∀ j (h : j < ms.length), ∃ b, a0 = some ⟨b, 0, none⟩ ∧ b < w.heap.size ∧ w.rangeAt b (j * 3) ms[j].row3) (hn : ms.length ≤ 1048576) :
    Calls Try.prog 18 #[.slice a0 ms.length c, .func (.func 19) #[] #[]] w fun e w' => e = .returned (.slice (some ⟨w.heap.size, 0, none⟩) ms.length ms.length) ∧ w.heap.size < w'.heap.size ∧ (∀ j (h : j < ms.length), w'.rangeAt w.heap.size (j * 5) ms[j].row5) ∧ Below w.heap.size w w' := by
  obtain ⟨i0, z0, hi0, hz0, hz1, hz2⟩ := elemT52
  have hst : Hid ((Try.prog.info? 51).map (·.size) = some 5) := by show (Try.prog.info? 51).map (·.size) = some 5; kernel_rfl
  have hrH : Hid (∀ j (h : j < ms.length), ∃ b, a0 = some ⟨b, 0, none⟩ ∧ b < w.heap.size ∧ w.rangeAt b (j * 3) ms[j].row3) := hr
  clear hr
  have hlE : Hid ((ms.map MobV.row5).length = ms.length) := by simp [Hid]
  go_enter Try.func18, Try.ntmps18
  go_wp2_with (refine wpList_make_full _ rfl (.tmp 9) (.tmp 9) 48 rfl w.heap.size 51 i0 z0 5 Try.underlying48 hi0 hz0 hz1 .i64 .i64 ms.length ms.length ms.length rfl rfl rfl rfl (by rw [hz2]; omega) (by unfold maxLen; omega) (Nat.le_refl _) ?_; intro w1 hown1 hgrow1)
  have hFH : Hid (FilledL AsIs 5 (ms.map MobV.row5) w 0 w1) := by
    have h1 := hown1
    rw [← hlE.out] at h1
    exact FilledL.start h1 hgrow1
  clear hown1 hgrow1 hi0 hz0 hz1 hz2
  go_loopw [13] (fun i wr => ∃ m : Nat, m ≤ ms.length ∧ i = .int .i64 m ∧ Hid (FilledL AsIs 5 (ms.map MobV.row5) w m wr)) (fun i _ => ms.length - (intOf i).toNat)
  case atStart => exact ⟨0, Nat.zero_le _, rfl, hFH⟩
  case round =>
    obtain ⟨m, hm, rfl, hF⟩ := hrel
    have hm0 : (0 : Int) ≤ m := by omega
    by_cases hlt : m < ms.length
    · have hlt' : (m : Int) < (ms.length : Int) := by omega
      obtain ⟨b, rfl, hb, hrr⟩ := hrH.out m hlt
      have kk : wr.rangeAt b (m * 3) ms[m].row3 := fun j u hj => (hF.out.1.cell (p := ⟨b, m * 3 + j, none⟩) hb).trans (hrr j u hj)
      clear hrr hb
      have k0 : wr.cell? ⟨b, m * 3, none⟩ = some (.int .i64 ms[m].id) := kk 0 _ rfl
      have k1 : wr.cell? ⟨b, m * 3 + 1, none⟩ = some (.slice ms[m].fa ms[m].fn ms[m].fc) := kk 1 _ rfl
      have k2 : wr.cell? ⟨b, m * 3 + 2, none⟩ = some (.int .i64 ms[m].col) := kk 2 _ rfl
      have hbw : Hid (∀ o, Below wr.heap.size wr (wr.alloc o)) := fun o => below_1 _ _
      have hme : Hid (m < (ms.map MobV.row5).length) := by have := hlE.out; show _ < _; omega
      have hcl : Hid (∀ W, Calls Try.prog 19 #[.agg #[.int .i64 ms[m].id, .slice ms[m].fa ms[m].fn ms[m].fc, .int .i64 ms[m].col]] W fun e w' => e = .returned (.agg ms[m].row5.toArray) ∧ Below W.heap.size W w') := fun W => clo_calls ms[m] W
      have hget : Hid ((ms.map MobV.row5)[m]'hme.out = ms[m].row5) := by simp [Hid]
      generalize ms[m] = mm at *
      clear kk
      have hnx : Hid (∀ W, Below wr.heap.size wr W → W.there w.heap.size (m * 5) 5 ∧ FilledL AsIs 5 (ms.map MobV.row5) w (m + 1) (W.setCells w.heap.size (m * 5) mm.row5)) := fun W hW => ⟨hF.out.room hme.out hW, hF.out.next AsIs.stable hme.out hW rfl hget.out.symm⟩
      have hone : Hid (OneCells mm.row5) := rfl
      have hlr : Hid (mm.row5.length = 5) := rfl
      clear hF hget hme hlE
      generalize mm.row5 = R5 at hcl hnx hone hlr
      go_wp2_with (first
        | (go_at_call 19; refine (show Calls _ _ _ _ _ from hcl.out _).mono ?_; rintro e w2 ⟨rfl, hb2⟩; have hbb : Hid (Below wr.heap.size wr w2) := below_on2 (hbw.out _) hb2; clear hb2)
        | (refine wpList_store_mid rfl 51 _ _ rfl w.heap.size (m * 5) R5.toArray (by first | rfl | (simp; done)) (by first | rfl | (simp; done)) (by simpa [hlr.out] using (hnx.out _ hbb.out).1) (by simpa [hlr.out] using hst.out) hone.out.all ?_))
      go_roundw
      case rel => exact ⟨m + 1, by omega, by go_num, (hnx.out _ hbb.out).2⟩
      case measure => simp [intOf]; omega
    · have hge : ¬ ((m : Int) < (ms.length : Int)) := by omega
      have hmE : m = ms.length := by omega
      have hfin : Hid (w.heap.size < wr.heap.size ∧ (∀ j (h : j < ms.length), wr.rangeAt w.heap.size (j * 5) ms[j].row5) ∧ Below w.heap.size w wr) := by
        obtain ⟨h1, h2, _, h4⟩ := hF.out
        refine ⟨h2, fun j hj => ?_, h1⟩
        obtain ⟨row, _, hrr, e⟩ := h4 j (by simpa using hj) (by omega)
        have e : row = (ms.map MobV.row5)[j]'(by simpa using hj) := e
        rw [e] at hrr
        simpa using hrr
      clear hF hmE
      go_wp2
      go_ret
      exact ⟨rfl, hfin.out⟩
end Go.Proofs.Ytchcdlelaklnnaa
