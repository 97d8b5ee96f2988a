/- The marker's heap given back: ids out of pointers, roots copied. -/
import Derived.Test.YtchcdlelaklnnaaMkP
import Derived.Test.YtchcdlelaklnnaaKmH
import Derived.Lib.SliceRun
namespace Go.Proofs.Ytchcdlelaklnnaa
set_option linter.unusedVariables false
open Go.ChangeShapes Go.WideShapes Go.ChangeAt Go.RowKit

set_option maxRecDepth 100000 in
theorem idOf_calls (p : Nat) (z : Int) (w : World) (hc : w.cell? ⟨p, 0, none⟩ = some (.int .i64 z)) : Calls Try.prog 37 #[.pointer (some ⟨p, 0, none⟩)] w fun e w' => e = .returned (.int .i64 z) ∧ w' = w := by
  go_enter Try.func37, Try.ntmps37
  go_wp2
  go_ret
  exact ⟨rfl, rfl⟩
set_option maxRecDepth 1000000 in
set_option maxHeartbeats 1000000 in
theorem changedId_calls (zs : List Int) (pt : Nat → Nat) (va : Option Addr) (c : Nat) (w : World) (hr : ∀ j (h : j < zs.length), ∃ b off, va = some ⟨b, off, none⟩ ∧ b < w.heap.size ∧ pt j < w.heap.size ∧ w.cell? ⟨b, off + j, none⟩ = some (.pointer (some ⟨pt j, 0, none⟩)) ∧ w.cell? ⟨pt j, 0, none⟩ = some (.int .i64 zs[j])) (hn : zs.length ≤ 1048576) :
    Calls Try.prog 36 #[.slice va zs.length c, .func (.func 37) #[] #[]] w fun e w' => ∃ u, e = .returned u ∧ ListAt IntR 1 true w.heap.size w'.heap.size w' u zs ∧ Below w.heap.size w w' := by
  obtain ⟨i0, hi0, hz0, hz1, hz2⟩ := int_info
  have hrH : Hid (∀ j (h : j < zs.length), ∃ b off, va = some ⟨b, off, none⟩ ∧ b < w.heap.size ∧ pt j < w.heap.size ∧ w.cell? ⟨b, off + j, none⟩ = some (.pointer (some ⟨pt j, 0, none⟩)) ∧ w.cell? ⟨pt j, 0, none⟩ = some (.int .i64 zs[j])) := hr
  have hn' : (zs.length : Int) ≤ 1048576 := by omega
  clear hr
  go_enter Try.func36, Try.ntmps36
  go_wp2_with (refine wpList_make_full _ rfl (.tmp 9) (.tmp 9) 32 rfl w.heap.size 2 i0 (.int .i64 0) 1 Try.underlying32 hi0 hz0 hz1 .i64 .i64 zs.length zs.length zs.length rfl rfl rfl rfl (by rw [hz2]; omega) (by unfold maxLen; omega) (Nat.le_refl _) ?_; intro w1 hown1 hgrow1)
  have hFH : Hid (FilledL IntR 1 zs w 0 w1) := FilledL.start hown1 hgrow1
  clear hown1 hgrow1 hi0 hz0 hz1 hz2
  go_loopw [13] (fun i wr => ∃ m : Nat, m ≤ zs.length ∧ i = .int .i64 m ∧ Hid (FilledL IntR 1 zs w m wr)) (fun i _ => zs.length - (intOf i).toNat)
  case atStart => exact ⟨0, Nat.zero_le _, rfl, hFH⟩
  case round =>
    obtain ⟨m, hm, rfl, hF⟩ := hrel
    have hm0 : (0 : Int) ≤ m := by omega
    by_cases hlt : m < zs.length
    · have hlt' : (m : Int) < (zs.length : Int) := by omega
      obtain ⟨b, off, rfl, hb, hp, q0, q1⟩ := hrH.out m hlt
      have k0 : wr.cell? ⟨b, off + m, none⟩ = some (.pointer (some ⟨pt m, 0, none⟩)) := (hF.out.1.cell (p := ⟨b, off + m, none⟩) hb).trans q0
      have k1 : wr.cell? ⟨pt m, 0, none⟩ = some (.int .i64 zs[m]) := (hF.out.1.cell (p := ⟨pt m, 0, none⟩) hp).trans q1
      have hcl : Hid (Calls Try.prog 37 #[.pointer (some ⟨pt m, 0, none⟩)] wr fun e w' => e = .returned (.int .i64 zs[m]) ∧ w' = wr) := idOf_calls _ _ _ k1
      obtain ⟨⟨y, hy⟩, hfz⟩ := hF.out.room1 hlt (Below.refl _ _)
      have hnx : Hid (FilledL IntR 1 zs w (m + 1) (wr.setCell ⟨w.heap.size, m, none⟩ (.int .i64 zs[m]))) := hF.out.next1 IntR.stable hlt (Below.refl _ _) rfl
      clear q0 q1 k1 hF
      generalize zs[m] = z at *
      generalize pt m = p at *
      go_wp2_with (go_at_call 37; refine (show Calls _ _ _ _ _ from hcl.out).mono ?_; rintro e w2 ⟨rfl, hw⟩; subst hw)
      go_roundw
      case rel => exact ⟨m + 1, by omega, by go_num, hnx⟩
      case measure => simp [intOf]; omega
    · have hge : ¬ ((m : Int) < (zs.length : Int)) := by omega
      have hmE : m = zs.length := by omega
      have hfin : Hid (ListAt IntR 1 true w.heap.size wr.heap.size wr (.slice (some ⟨w.heap.size, 0, none⟩) zs.length zs.length) zs) := hF.out.done IntR.stable hmE
      have hB : Hid (Below w.heap.size w wr) := hF.out.1
      clear hF
      go_wp2
      go_ret
      exact ⟨_, rfl, hfin.out, hB.out⟩
end Go.Proofs.Ytchcdlelaklnnaa

/- Roots copied; objects out of pointers. -/
namespace Go.Proofs.Ytchcdlelaklnnaa
set_option linter.unusedVariables false
open Go.ChangeShapes Go.WideShapes Go.ChangeAt Go.RowKit

set_option maxRecDepth 100000 in
set_option maxHeartbeats 1000000 in
theorem clone_calls (zs : List Int) (b o c : Nat) (w : World) (hr : ∀ j u, (intsV zs)[j]? = some u → w.cell? ⟨b, o + j, none⟩ = some u) (hb : b < w.heap.size) (hn : zs.length ≤ 1000000) :
    Calls Try.prog 35 #[.slice (some ⟨b, o, none⟩) zs.length c] w fun e w' => ∃ u, e = .returned u ∧ OutAt w.heap.size w' u zs ∧ Below w.heap.size w w' := by
  obtain ⟨i9, hi9, hz9, hs9, hb9⟩ := int_info
  have hn' : (zs.length : Int) ≤ 1000000 := by omega
  have hvl : (intsV zs).length = zs.length := by simp [intsV]
  have hone : Hid (∀ u ∈ intsV zs, u.oneCell' = true) := fun u hu => by
    simp [intsV] at hu
    obtain ⟨z, _, rfl⟩ := hu
    rfl
  have hdst : Hid ((w.alloc (.cells #[] 2)).ownsRow w.heap.size 2 1 (.slice (some ⟨w.heap.size, 0, none⟩) 0 0) 0 []) := World.ownsRow_made w #[] 0 (Nat.le_refl _) (by unfold maxLen; omega) rfl
  have hsrc : Hid (SrcAt (w.alloc (.cells #[] 2)) 1 (.slice (some ⟨b, o, none⟩) zs.length c) zs.length (intsV zs)) := .inr ⟨⟨b, o, none⟩, c, rfl, by rw [hvl]; omega, fun j u hj => by
    rw [Addr.add_mid]
    exact ((below_1 w (.cells #[] 2)).cell (p := ⟨b, o + j, none⟩) hb).trans (hr j u hj)⟩
  have hBs : Hid (w.heap.size ≤ (w.alloc (.cells #[] 2)).heap.size) := (below_1 w _).size
  have hdone : Hid (∀ (w2 : World) (u : Value) (g : Option Nat), w2.ownsRow w.heap.size 2 1 u (0 + zs.length) ([] ++ intsV zs) → (w.alloc (.cells #[] 2)).grownBy w2 (Value.slice (some ⟨w.heap.size, 0, none⟩) 0 0).ownBlock → OutAt w.heap.size w2 u zs ∧ Below w.heap.size w w2) := fun w2 u g h1 h2 => by
    rw [Nat.zero_add, List.nil_append] at h1
    exact ⟨h1, (below_1 w _).grown h2 hBs.out (fun j hj => by injection hj with hj; rw [← hj]; exact Nat.le_refl _)⟩
  have q31 : ∀ (w : World) (a : Option Addr) (n c n' c' : Nat), (binOp .eql 32 (.slice a n c) (.slice none n' c')).run Try.prog w = .ok (.bool a.isNone) w := fun w a n c n' c' => Lib.run_eql_slice_nil w _ _ a n c n' c' Try.underlying32
  clear hr hb hvl
  go_enter Try.func35, Try.ntmps35
  go_wp2_with (refine wpList_append_src rfl (.tmp 5) (.tmp 6) 32 rfl w.heap.size 2 i9 (.int .i64 0) 1 8 Try.underlying32 hi9 hz9 hs9 hb9 rfl (by omega) _ 0 [] rfl hdst.out _ zs.length (intsV zs) rfl hsrc.out hone.out (by unfold maxLen; omega) (by omega) hBs.out (fun u w2 hown hgrow hat => ?_); have hd : Hid _ := hdone.out w2 u none hown hgrow; obtain ⟨ua, uc, rfl⟩ := own_slice hown; clear hown hgrow hat)
  go_ret
  exact ⟨_, rfl, by have := hd.out.1; rw [Nat.zero_add] at this; exact this, hd.out.2⟩
end Go.Proofs.Ytchcdlelaklnnaa

/- Objects out of pointers. -/
namespace Go.Proofs.Ytchcdlelaklnnaa
set_option linter.unusedVariables false
open Go.ChangeShapes Go.WideShapes Go.ChangeAt Go.RowKit

set_option maxRecDepth 100000 in
set_option maxHeartbeats 1000000 in
theorem objOf_calls (p : Nat) (z col : Int) (fa : Option Addr) (fn fc : Nat) (w : World) (hb : w.heap[p]? = some (.cells #[.int .i64 z, .slice fa fn fc, .int .i64 col] 38 (0, 0))) :
    Calls Try.prog 34 #[.pointer (some ⟨p, 0, none⟩)] w fun e w' => e = .returned (.agg #[.int .i64 z, .slice fa fn fc, .int .i64 col]) ∧ Below w.heap.size w w' := by
  have hlt := lt_of hb
  have hpA : Hid ((w.alloc (.cells #[.int .i64 0, .slice none 0 0, .int .i64 0] 38)).heap[p]? = some (.cells #[.int .i64 z, .slice fa fn fc, .int .i64 col] 38 (0, 0))) := ((below_1 w _).block p hlt).trans hb
  have hnA : Hid ((w.alloc (.cells #[.int .i64 0, .slice none 0 0, .int .i64 0] 38)).heap[w.heap.size]? = some (.cells #[.int .i64 0, .slice none 0 0, .int .i64 0] 38 (0, 0))) := heap_alloc_new w _
  have hk : Hid ((w.alloc (.cells #[.int .i64 0, .slice none 0 0, .int .i64 0] 38)).cell? ⟨p, 0, none⟩ = some (.int .i64 z)) := cell_of hpA.out rfl
  have hB : Hid (Below w.heap.size w ((w.alloc (.cells #[.int .i64 0, .slice none 0 0, .int .i64 0] 38)).setRow w.heap.size #[.int .i64 z, .slice fa fn fc, .int .i64 col])) := by
    have h1 := below_1 w (.cells #[.int .i64 0, .slice none 0 0, .int .i64 0] 38)
    exact ⟨h1.os, h1.tape, h1.output, by rw [setRow_size]; exact h1.size, fun k hk => (setRow_other _ _ _ _ (by omega)).trans (h1.block k hk)⟩
  clear hlt hb
  go_enter Try.func34, Try.ntmps34
  have hk' := hk.out
  go_wp2_with (first
    | (refine wpList_load_row rfl 38 _ rfl p rfl 38 _ _ _ hpA.out Try.underlying38 rfl (by kernel_rfl) ?_)
    | (refine wpList_store_row rfl 38 _ _ rfl w.heap.size #[.int .i64 z, .slice fa fn fc, .int .i64 col] rfl rfl 38 _ hnA.out (by kernel_rfl) rfl (all_oneCell_toArray (cs := [.int .i64 z, .slice fa fn fc, .int .i64 col]) (by simp [Value.oneCell'])) ?_))
  (try simp only [Exit.inBlock, Exit.then])
  refine bodyPost_ret (v := .agg #[.int .i64 z, .slice fa fn fc, .int .i64 col]) (results_cell_row rfl _ _ w.heap.size 38 #[.int .i64 z, .slice fa fn fc, .int .i64 col] (0, 0) _ rfl (setRow_heap _ _ _ _ _ _ hnA.out) Try.underlying38 rfl (by kernel_rfl)) rfl ?_
  exact ⟨rfl, hB.out⟩
/-- Rows of values, read as they are. -/
def AsIs : Rd (List Value) := fun _ _ _ _ row x => row = x
theorem AsIs.stable : Stable AsIs := fun _ _ _ _ _ _ _ _ _ h _ _ _ => h
theorem elemT62 : ∃ i z, Try.prog.info? 38 = some i ∧ i.zero = some z ∧ i.size = 3 ∧ i.bytes = 40 := by
  obtain ⟨i0, hi0⟩ : ∃ i, Try.prog.info? 38 = some i := Option.isSome_iff_exists.1 (by kernel_rfl)
  obtain ⟨z, hz⟩ : ∃ z, (Try.prog.info? 38).bind (·.zero) = some z := Option.isSome_iff_exists.1 (by kernel_rfl)
  refine ⟨i0, z, hi0, ?_, ?_, ?_⟩
  · rw [hi0] at hz; exact hz
  · have : (Try.prog.info? 38).map (·.size) = some 3 := by kernel_rfl
    rw [hi0] at this; exact Option.some.inj this
  · have : (Try.prog.info? 38).map (·.bytes) = some 40 := by kernel_rfl
    rw [hi0] at this; exact Option.some.inj this
structure MobV where
  id : Int
  fa : Option Addr
  fn : Nat
  fc : Nat
  col : Int
def MobV.row3 (m : MobV) : List Value := [.int .i64 m.id, .slice m.fa m.fn m.fc, .int .i64 m.col]
set_option maxRecDepth 1000000 in
set_option maxHeartbeats 1000000 in
theorem changedObj_calls (ms : List MobV) (pt : Nat → Nat) (va : Option Addr) (c : Nat) (w : World) (hr : ∀ j (h : j < ms.length), ∃ b off, va = some ⟨b, off, none⟩ ∧ b < w.heap.size ∧ w.cell? ⟨b, off + j, none⟩ = some (.pointer (some ⟨pt j, 0, none⟩)) ∧ w.heap[pt j]? = some (.cells #[.int .i64 ms[j].id, .slice ms[j].fa ms[j].fn ms[j].fc, .int .i64 ms[j].col] 38 (0, 0))) (hn : ms.length ≤ 1048576) :
    Calls Try.prog 32 #[.slice va ms.length c, .func (.func 34) #[] #[]] w fun e w' => e = .returned (.slice (some ⟨w.heap.size, 0, none⟩) ms.length ms.length) ∧ w.heap.size < w'.heap.size ∧ w'.there w.heap.size 0 (ms.length * 3) ∧ (∀ j (h : j < ms.length), w'.rangeAt w.heap.size (j * 3) ms[j].row3) ∧ Below w.heap.size w w' := by
  obtain ⟨i0, z0, hi0, hz0, hz1, hz2⟩ := elemT62
  have hst : Hid ((Try.prog.info? 38).map (·.size) = some 3) := by show (Try.prog.info? 38).map (·.size) = some 3; kernel_rfl
  have hrH : Hid (∀ j (h : j < ms.length), ∃ b off, va = some ⟨b, off, none⟩ ∧ b < w.heap.size ∧ w.cell? ⟨b, off + j, none⟩ = some (.pointer (some ⟨pt j, 0, none⟩)) ∧ w.heap[pt j]? = some (.cells #[.int .i64 ms[j].id, .slice ms[j].fa ms[j].fn ms[j].fc, .int .i64 ms[j].col] 38 (0, 0))) := hr
  have hn' : (ms.length : Int) ≤ 1048576 := by omega
  clear hr
  have hlE : Hid ((ms.map MobV.row3).length = ms.length) := by simp [Hid]
  go_enter Try.func32, Try.ntmps32
  go_wp2_with (refine wpList_make_full _ rfl (.tmp 9) (.tmp 9) 31 rfl w.heap.size 38 i0 z0 3 Try.underlying31 hi0 hz0 hz1 .i64 .i64 ms.length ms.length ms.length rfl rfl rfl rfl (by rw [hz2]; omega) (by unfold maxLen; omega) (Nat.le_refl _) ?_; intro w1 hown1 hgrow1)
  have hFH : Hid (FilledL AsIs 3 (ms.map MobV.row3) w 0 w1) := by
    have h1 := hown1
    rw [← hlE.out] at h1
    exact FilledL.start h1 hgrow1
  clear hown1 hgrow1 hi0 hz0 hz1 hz2
  go_loopw [13] (fun i wr => ∃ m : Nat, m ≤ ms.length ∧ i = .int .i64 m ∧ Hid (FilledL AsIs 3 (ms.map MobV.row3) w m wr)) (fun i _ => ms.length - (intOf i).toNat)
  case atStart => exact ⟨0, Nat.zero_le _, rfl, hFH⟩
  case round =>
    obtain ⟨m, hm, rfl, hF⟩ := hrel
    have hm0 : (0 : Int) ≤ m := by omega
    by_cases hlt : m < ms.length
    · have hlt' : (m : Int) < (ms.length : Int) := by omega
      obtain ⟨b, off, rfl, hb, q0, q1⟩ := hrH.out m hlt
      have k0 : wr.cell? ⟨b, off + m, none⟩ = some (.pointer (some ⟨pt m, 0, none⟩)) := (hF.out.1.cell (p := ⟨b, off + m, none⟩) hb).trans q0
      have k1 := (hF.out.1.block _ (lt_of q1)).trans q1
      have hme : Hid (m < (ms.map MobV.row3).length) := by have := hlE.out; show _ < _; omega
      have hcl : Hid (Calls Try.prog 34 #[.pointer (some ⟨pt m, 0, none⟩)] wr fun e w' => e = .returned (.agg ms[m].row3.toArray) ∧ Below wr.heap.size wr w') := objOf_calls _ _ _ _ _ _ _ k1
      have hget : Hid ((ms.map MobV.row3)[m]'hme.out = ms[m].row3) := by simp [Hid]
      have hone0 : Hid (OneCells ms[m].row3) := rfl
      have hlr0 : Hid (ms[m].row3.length = 3) := rfl
      have hnx : Hid (∀ W, Below wr.heap.size wr W → W.there w.heap.size (m * 3) 3 ∧ FilledL AsIs 3 (ms.map MobV.row3) w (m + 1) (W.setCells w.heap.size (m * 3) ms[m].row3)) := fun W hW => ⟨hF.out.room hme.out hW, hF.out.next AsIs.stable hme.out hW rfl hget.out.symm⟩
      clear q0 q1 k1 hF hget hme hlE
      generalize ms[m].row3 = R3 at hcl hnx hone0 hlr0
      generalize pt m = p at *
      have hone : Hid (OneCells R3) := hone0
      have hlr : Hid (R3.length = 3) := hlr0
      clear hone0 hlr0
      go_wp2_with (first
        | (go_at_call 34; refine (show Calls _ _ _ _ _ from hcl.out).mono ?_; rintro e w2 ⟨rfl, hb2⟩; have hbb : Hid (Below wr.heap.size wr w2) := hb2; clear hb2)
        | (refine wpList_store_mid rfl 38 _ _ rfl w.heap.size (m * 3) R3.toArray (by first | rfl | (simp; done)) (by first | rfl | (simp; done)) (by simpa [hlr.out] using (hnx.out _ hbb.out).1) (by simpa [hlr.out] using hst.out) hone.out.all ?_))
      go_roundw
      case rel => exact ⟨m + 1, by omega, by go_num, (hnx.out _ hbb.out).2⟩
      case measure => simp [intOf]; omega
    · have hge : ¬ ((m : Int) < (ms.length : Int)) := by omega
      have hmE : m = ms.length := by omega
      have hfin : Hid (w.heap.size < wr.heap.size ∧ wr.there w.heap.size 0 (ms.length * 3) ∧ (∀ j (h : j < ms.length), wr.rangeAt w.heap.size (j * 3) ms[j].row3) ∧ Below w.heap.size w wr) := by
        obtain ⟨h1, h2, h3, h4⟩ := hF.out
        refine ⟨h2, by rw [← hlE.out]; exact h3, fun j hj => ?_, h1⟩
        obtain ⟨row, _, hrr, e⟩ := h4 j (by simpa using hj) (by omega)
        have e : row = (ms.map MobV.row3)[j]'(by simpa using hj) := e
        rw [e] at hrr
        simpa using hrr
      clear hF hmE
      go_wp2
      go_ret
      exact ⟨rfl, hfin.out⟩
end Go.Proofs.Ytchcdlelaklnnaa
