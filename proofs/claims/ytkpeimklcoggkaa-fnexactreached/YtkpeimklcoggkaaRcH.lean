/- The answer of the specification. -/
import Derived.Test.YtkpeimklcoggkaaRcG
import Derived.Test.YtkpeimklcoggkaaRcB
namespace Go.Proofs.Ytkpeimklcoggkaa
set_option linter.unusedVariables false
open Go.ChangeShapes Go.WideShapes Go.ChangeAt Go.RowKit

theorem own_mono {w : World} {base base' : Nat} {e : TypeId} {size : Nat} {v : Value} {n : Nat} {xs : List Value} (h : w.ownsRow base e size v n xs) (hb : base' ≤ base) : w.ownsRow base' e size v n xs := by
  refine ⟨h.1, ?_⟩
  rcases h.2 with h' | ⟨g, cap, cur, hv, hg, h1, h2, h3, h4, h5⟩
  · exact .inl h'
  · exact .inr ⟨g, cap, cur, hv, by omega, h1, h2, h3, h4, h5⟩
theorem own_below {B : Nat} {w w' : World} {base : Nat} {e : TypeId} {size : Nat} {v : Value} {n : Nat} {xs : List Value} (h : w.ownsRow base e size v n xs) (hb : Below w.heap.size w w') : w'.ownsRow base e size v n xs :=
  own_kept h (fun g hg => hb.block _ (own_lt h hg).2)
theorem own_ints {w : World} {base : Nat} {v : Value} {zs : List Int} (h : w.ownsRow base 2 1 v zs.length (zs.map (Value.int .i64))) : IntsAt base w.heap.size w v zs := by
  obtain ⟨h1, h2⟩ := h
  have hfull : w.ownsRow base 2 1 v zs.length (zs.map (Value.int .i64)) := ⟨h1, h2⟩
  rcases h2 with ⟨rfl, h0⟩ | ⟨g, cap, cur, rfl, hb, hg, hn, hc, hs, ht⟩
  · exact .inl ⟨List.eq_nil_of_length_eq_zero h0, _, _, rfl⟩
  · refine .inr ⟨g, cap, rfl, hb, (Array.getElem?_eq_some_iff.1 hg).1, fun j hj => ?_, fun j hj => ?_⟩
    · have := hfull.cellAt j (by omega)
      simp only [Nat.zero_add]
      exact ⟨by rw [this]; simp [hj], hfull.frozenAt j⟩
    · rw [hfull.cellAt j (by omega)]; simp [hj]
def reachA (objs : List ObjL) (roots : List Int) : Prop := objs.length ≤ 4000 ∧ roots.length ≤ 4000
open Classical in
noncomputable def reachL (objs : List ObjL) (roots : List Int) : List Int := if reachA objs roots then rchL objs.length roots (outOf objs) else []
def inL (inn : List Bool) (n : Nat) : List Int := ((List.range n).filter (fun j => inn[j]? == some true)).map Int.ofNat
theorem inL_succ (inn : List Bool) (n : Nat) : inL inn (n + 1) = inL inn n ++ (if inn[n]? = some true then [(n : Int)] else []) := by
  unfold inL
  rw [List.range_succ, List.filter_append, List.map_append]
  congr 1
  by_cases h : inn[n]? = some true <;> simp [h]
theorem inL_length (inn : List Bool) (n : Nat) : (inL inn n).length ≤ n := by
  unfold inL
  rw [List.length_map]
  exact Nat.le_trans (List.length_filter_le _ _) (by simp)

set_option maxRecDepth 1000000 in
set_option maxHeartbeats 4000000 in
theorem specReached_calls (v0 v1 : Value) (objs : List ObjL) (roots : List Int) (w : World) (own : Bool) (lo hi lo2 hi2 : Nat) (hh : hi ≤ w.heap.size) (hh2 : hi2 ≤ w.heap.size) (ho : ListAt ObjR 3 own lo hi w v0 objs) (hr : ListAt IntR 1 true lo2 hi2 w v1 roots) (hn : objs.length ≤ 1048576) (hn2 : roots.length ≤ 1048576) (hs : (objs.map (fun x => x.vals.length)).sum ≤ 1048576) :
    Calls Try.prog 5 #[v0, v1] w fun e w' => ∃ v, e = .returned v ∧ IntsAt w.heap.size w'.heap.size w' v (reachL objs roots) ∧ Below w.heap.size w w' := by
  obtain ⟨i2, hi2', hz2, hs2, hb2⟩ := elemI
  have hlit : Hid ((w.alloc (.cells #[] 2)).ownsRow w.heap.size 2 1 (.slice (some ⟨w.heap.size, 0, none⟩) 0 0) 0 []) := World.ownsRow_lit w #[] 0 (Nat.le_refl _) (by unfold maxLen; omega) rfl
  have hmarks : Hid (Calls Try.prog 15 #[v0, v1] (w.alloc (.cells #[] 2)) fun e w' => MarksQ objs roots (w.alloc (.cells #[] 2)) e w') := by
    have hb := below_1 w (.cells #[] 2)
    exact marks_calls v0 v1 objs roots _ own lo hi lo2 hi2 (by have := hb.size; omega) (by have := hb.size; omega) (ho.kept ObjR.stable (Nat.le_refl _) (Nat.le_refl _) ((Same.below hb).mono (Nat.zero_le _) hh)) (hr.kept IntR.stable (Nat.le_refl _) (Nat.le_refl _) ((Same.below hb).mono (Nat.zero_le _) hh2)) hn hn2 hs
  obtain ⟨a0, c0, rfl⟩ := ho.form
  obtain ⟨a1, c1, rfl⟩ := hr.form
  clear ho hr hh hh2
  by_cases hA : reachA objs roots
  · have hL : Hid (reachL objs roots = rchL objs.length roots (outOf objs)) := by show _ = _; unfold reachL; rw [if_pos hA]
    obtain ⟨hA1, hA2⟩ := hA
    generalize reachL objs roots = rl at hL ⊢
    have hN1 : (objs.length : Int) ≤ 4000 := by omega
    have hR1 : (roots.length : Int) ≤ 4000 := by omega
    go_enter Try.func5, Try.ntmps5
    go_wp2_with (first | (go_at_call 15; refine hmarks.out.mono ?_; rintro e w1 ⟨g, inn, rfl, hg1, hg2, hlen, hrch, hown, hbw⟩))
    have hown5 := own_mono hown (base' := w.heap.size) (by simp)
    have hM0 : Hid (MkW w w1 g inn (.slice (some ⟨w.heap.size, 0, none⟩) 0 0) (inL inn 1)) := by
      have h0 : inL inn 1 = [] := by
        rw [show (1 : Nat) = 0 + 1 from rfl, inL_succ, if_neg]
        · rfl
        · intro h
          have := ((hrch 0).1 h).range
          omega
      rw [h0]
      refine ⟨below_on2 (below_1 _ _) hbw, hown5, own_below (B := 0) hlit.out hbw, fun e => ?_⟩
      have e2 : w.heap.size = g := by simpa [Value.ownBlock] using e
      simp at hg1
      omega
    have hfinL : Hid (inL inn (objs.length + 1) = rl) := by
      show _ = _
      rw [hL.out]; exact rchL_of hrch
    have hlenH : Hid (inn.length = objs.length + 1) := hlen
    clear hown hown5 hrch hbw hg1 hg2 hlen hlit hmarks
    go_loopw [5, 7] (fun ov nv wr => ∃ n : Nat, 1 ≤ n ∧ n ≤ objs.length + 1 ∧ nv = .int .i64 n ∧ Hid (MkW w wr g inn ov (inL inn n))) (fun _ nv _ => objs.length + 1 - (intOf nv).toNat)
    case atStart => exact ⟨1, by omega, by omega, rfl, hM0⟩
    case round =>
      obtain ⟨n, hn1, hnN, rfl, hM⟩ := hrel
      obtain ⟨ta, tc, rfl⟩ := own_form hM.out.own6
      obtain ⟨ln, hln⟩ : ∃ ln, ln = (inL inn n).length := ⟨_, rfl⟩
      have hlb : ln ≤ 4001 := by rw [hln]; have := inL_length inn n; omega
      have hlnH : Hid (ln = (inL inn n).length) := hln
      rw [← hln] at hM ⊢
      clear hln
      by_cases hlt : n < objs.length + 1
      · have hlt' : (n : Int) < (objs.length : Int) + 1 := by omega
        have hn0 : (0 : Int) ≤ n := by omega
        have hni : n < inn.length := by rw [hlenH.out]; exact hlt
        obtain ⟨hic, _⟩ := hM.out.inAt n hni
        have hsn : Hid (inL inn (n + 1) = inL inn n ++ (if inn[n] = true then [(n : Int)] else [])) := by
          show _ = _
          rw [inL_succ, List.getElem?_eq_getElem hni]
          simp
        obtain ⟨bi, hbi⟩ : ∃ bi, bi = inn[n] := ⟨_, rfl⟩
        rw [← hbi] at hic hsn
        clear hbi
        cases bi
        · go_wp2
          go_roundw
          case rel =>
            refine ⟨n + 1, by omega, by omega, by go_num, ?_⟩
            show MkW _ _ _ _ _ _
            rw [hsn.out]
            simpa using hM.out
          case measure => simp [intOf]; omega
        · have hM1 : Hid (MkW w (wr.alloc (.cells #[.int .i64 (n : Int)] 2)) g inn (.slice ta ln tc) (inL inn n)) := hM.out.alloc _
          have hownA : Hid ((wr.alloc (.cells #[.int .i64 (n : Int)] 2)).ownsRow w.heap.size 2 1 (.slice ta ln tc) ln ((inL inn n).map (Value.int .i64))) := by
            have := hM1.out.own6
            rw [← hlnH.out] at this; exact this
          go_wp2_with (first
            | (refine wpList_append_own_at _ rfl (.tmp 31) (.tmp 33) 23 rfl w.heap.size 2 i2 (.int .i64 0) 1 8 Try.underlying23 hi2' hz2 hs2 hb2 rfl (by omega) _ ln _ rfl hownA.out ⟨wr.heap.size, 0, none⟩ 1 1 [.int .i64 (n : Int)] rfl rfl (cell_one_new _ _ _) (by simp [Value.oneCell']) (by unfold maxLen; omega) (by omega) hM1.out.hb.size ?_; intro v' w' h1 h2 h3 h4))
          go_roundw
          case rel =>
            refine ⟨n + 1, by omega, by omega, by go_num, ?_⟩
            have := hM1.out.append (news := [(n : Int)]) (by rw [← hlnH.out]; exact h1) h2 h4
            show MkW _ _ _ _ _ _
            rw [hsn.out]
            simpa using this
          case measure => simp [intOf]; omega
      · have hie : n = objs.length + 1 := by omega
        have hfin : Hid (IntsAt w.heap.size wr.heap.size wr (.slice ta ln tc) rl ∧ Below w.heap.size w wr) := by
          have h := hM.out
          rw [hie, hfinL.out] at h
          have e : ln = rl.length := by rw [hlnH.out, hie, hfinL.out]
          rw [e] at h ⊢
          exact ⟨own_ints h.own6, h.hb⟩
        go_wp2
        go_ret
        exact ⟨_, rfl, hfin.out.1, hfin.out.2⟩
  · have hL : Hid (reachL objs roots = []) := by show _ = _; unfold reachL; rw [if_neg hA]
    generalize reachL objs roots = rl at hL ⊢
    have hfin : Hid (IntsAt w.heap.size (w.alloc (.cells #[] 2)).heap.size (w.alloc (.cells #[] 2)) (.slice (some ⟨w.heap.size, 0, none⟩) 0 0) rl ∧ Below w.heap.size w (w.alloc (.cells #[] 2))) := by
      show _ ∧ _
      rw [hL.out]
      exact ⟨.inl ⟨rfl, _, _, rfl⟩, below_1 _ _⟩
    have hor : 4000 < objs.length ∨ 4000 < roots.length := by unfold reachA at hA; omega
    clear hA hlit hmarks hL
    by_cases h1 : 4000 < objs.length
    · have h1' : (4000 : Int) < objs.length := by omega
      go_enter Try.func5, Try.ntmps5
      go_wp2
      go_ret
      exact ⟨_, rfl, hfin.out.1, hfin.out.2⟩
    · have h1' : (objs.length : Int) ≤ 4000 := by omega
      have h2' : (4000 : Int) < roots.length := by omega
      go_enter Try.func5, Try.ntmps5
      go_wp2
      go_ret
      exact ⟨_, rfl, hfin.out.1, hfin.out.2⟩
end Go.Proofs.Ytkpeimklcoggkaa
