/- A new pair: the walk. -/
import Derived.Test.YtjhlbgohpofmnaaAlPa
namespace Go.Proofs.Ytjhlbgohpofmnaa
set_option linter.unusedVariables false
open Go.ChangeShapes Go.WideShapes Go.ChangeAt Go.RowKit Go.Maps

theorem cell_new2 (w : World) (x y : Value) (t : TypeId) : ∀ j u, ([x, y] : List Value)[j]? = some u → (w.alloc (.cells #[x, y] t)).cell? ((⟨w.heap.size, 0, none⟩ : Addr).add j) = some u := fun j u hu => by
  have e := heap_alloc_new w (.cells #[x, y] t)
  rw [Addr.add_mid]
  simp only [World.cell?, e, Nat.zero_add]
  match j, hu with
  | 0, hu => simpa using hu
  | 1, hu => simpa using hu
  | j + 2, hu => simp at hu

set_option maxRecDepth 1000000 in
set_option maxHeartbeats 4000000 in
theorem meet_fresh (p q : Int) (w wr : World) (a0 b0 : Option Addr) (A B ca cb P M1 M2 : Nat) (rv : Value) (row : List (Int × Int)) (hA : A ≤ 1048576) (hB : B ≤ 1048576) (hrow : row.length ≤ 1048576) (h : PairW w wr (.slice a0 A ca) (.slice b0 B cb) P M1 M2 rv row)
    (hp1 : 1 ≤ p) (hp2 : p ≤ (A : Int)) (hq1 : 1 ≤ q) (hq2 : q ≤ (B : Int)) (hn1 : p ∉ fsts row) (hn2 : q ∉ snds row) :
    Calls Try.prog 11 #[.pointer (some ⟨P, 0, none⟩), .int .i64 p, .int .i64 q] wr fun e w' => MeetQ w (.slice a0 A ca) (.slice b0 B cb) P M1 M2 (some (row ++ [(p, q)])) e w' := by
  obtain ⟨i2, hi2', hz2, hs2, hb2⟩ := elemP
  obtain ⟨ra, rc, rfl⟩ := own_form h.own
  obtain ⟨ln, hln⟩ : ∃ ln, ln = row.length := ⟨_, rfl⟩
  have hlnH : Hid (ln = row.length) := hln
  rw [← hln] at h hrow
  clear hln
  have hH : Hid (PairW w wr (.slice a0 A ca) (.slice b0 B cb) P M1 M2 (.slice ra ln rc) row) := h
  have hA' : (A : Int) ≤ 1048576 := by omega
  have hB' : (B : Int) ≤ 1048576 := by omega
  have c0 := h.p0
  have c1 := h.p1
  have c2 := h.p2
  have c3 := h.p3
  have hba : btw p 0 A = true := by simp [btw, hp2]; omega
  have hbb : btw q 0 B = true := by simp [btw, hq2]; omega
  have hp0 : (p == 0) = false := by simp; omega
  have hq0 : (q == 0) = false := by simp; omega
  have hkp := keyOfI (z := p) (by omega)
  have hkq := keyOfI (z := q) (by omega)
  obtain ⟨D1, hD1, hD1h⟩ := h.part
  obtain ⟨D2, hD2, hD2h⟩ := h.take
  rw [← hlnH.out] at hD1 hD2
  have hi1 : decide (p ∈ fsts row) = false := decide_eq_false hn1
  have hi2 : decide (q ∈ snds row) = false := decide_eq_false hn2
  have hP9 : Hid (PairW w (wr.alloc (.cells #[] 55)) (.slice a0 A ca) (.slice b0 B cb) P M1 M2 (.slice ra ln rc) row) := h.alloc _
  clear h
  go_enter Try.func11, Try.ntmps11
  go_wp2_with (first
    | (go_at_call 16; refine (between_calls _ _ _ _).mono ?_; rintro e wz ⟨rfl, rfl⟩; first | rw [hba] | rw [hbb])
    | (at_lookup; refine wpList_lookup_own_ok_int _ rfl _ _ 40 rfl 2 2 .i64 keyI Try.underlying40 Try.underlying2 (zeroI _) M1 ln D1 rfl hD1 _ _ rfl hkp ?_; intro c hat hwc; rw [(hD1h p).1, hi1])
    | (at_lookup; refine wpList_lookup_own_unit _ rfl _ _ 41 rfl 2 55 keyI Try.underlying41 (zeroU _) M2 ln D2 rfl hD2 _ _ rfl hkq ?_; rw [hD2h q, hi2]))
  clear c0 c1 c2 c3 hH hD1 hD2 hD1h hD2h hat hwc hkp hkq
  obtain ⟨W9, hW9⟩ : ∃ W9, W9 = wz.alloc (.cells #[] 55) := ⟨_, rfl⟩
  rw [← hW9] at hP9 ⊢
  generalize wz.heap.size = bz at *
  clear hW9
  have hW2 := hP9.out.p2
  have hW3 := hP9.out.p3
  have hcells : Hid (∀ W, Keep2 M1 M2 W9 W → W.cell? ⟨P, 2, none⟩ = some (.map (some M1)) ∧ W.cell? ⟨P, 3, none⟩ = some (.map (some M2)) ∧ W.cell? ⟨P, 4, none⟩ = some (.slice ra ln rc)) := fun W hk => ⟨(hk.cells hP9.out 2).1.trans hP9.out.p2, (hk.cells hP9.out 3).1.trans hP9.out.p3, (hk.cells hP9.out 4).1.trans hP9.out.p4⟩
  have hMne : M1 ≠ M2 := hP9.out.ne.2.2
  clear hW2 hW3
  refine wp_region_chain (by kernel_rfl) (fun vs => { tmps := #[Value.pointer (some { block := P, off := 0 }), Value.int IntKind.i64 p, Value.int IntKind.i64 q, undef, undef, undef, Value.bool false, Value.int IntKind.i64 c, Value.bool false, Value.pointer (some { block := bz, off := 0 }), Value.bool false, Value.int IntKind.i64 p, Value.pointer (some { block := P, off := 0 }), Value.pointer (some { block := P, off := 0 }), Value.pointer (some { block := P, off := 0 }), Value.slice a0 A ca, Value.int IntKind.i64 ↑A, Value.bool true, Value.bool false, Value.bool false, Value.int IntKind.i64 q, Value.pointer (some { block := P, off := 0 }), Value.pointer (some { block := P, off := 0 }), Value.pointer (some { block := P, off := 1 }), Value.slice b0 B cb, Value.int IntKind.i64 ↑B, Value.bool true, Value.bool false, Value.bool false, Value.int IntKind.i64 p, Value.bool false, Value.bool false, Value.int IntKind.i64 q, Value.bool false, Value.bool false, undef, undef, undef, Value.tuple #[Value.int IntKind.i64 c, Value.bool false], Value.pointer (some { block := P, off := 0 }), Value.pointer (some { block := P, off := 0 }), Value.pointer (some { block := P, off := 2 }), Value.map (some M1), Value.int IntKind.i64 p, Value.tuple #[Value.int IntKind.i64 c, Value.bool false], Value.int IntKind.i64 c, Value.bool false, Value.tuple #[Value.agg #[], Value.bool false], Value.pointer (some { block := P, off := 0 }), Value.pointer (some { block := P, off := 0 }), Value.pointer (some { block := P, off := 3 }), Value.map (some M2), Value.int IntKind.i64 q, Value.tuple #[Value.agg #[], Value.bool false], Value.agg #[], Value.bool false, Value.bool false, Value.bool false, Value.bool false, Value.bool false, undef, undef, undef, vs 0, vs 1, vs 2, vs 3, vs 4, vs 5, vs 6, vs 7, vs 8, vs 9, vs 10, vs 11, vs 12, vs 13, vs 15, vs 16, undef, undef, undef, undef, undef, undef, undef, undef, undef, undef, undef, undef], defers := [] }) [12, 13, 14, 15, 16] (fun i qv => qv = ([.pointer (some ⟨P, 0, none⟩), .pointer (some ⟨P, 0, none⟩), .pointer (some ⟨P, 2, none⟩), .map (some M1), .int .i64 p, .pointer (some ⟨P, 0, none⟩), .pointer (some ⟨P, 0, none⟩), .pointer (some ⟨P, 3, none⟩), .map (some M2), .int .i64 q, .int .i64 q, .agg #[], undef, undef, undef, undef, undef] : List Value).getD i undef) (meetR W9 M1 M2 row (row ++ [(p, q)]) q) (fun i => undef) rfl (by kernel_rfl) ?_ (meetR_loc _ _ _ _ _ _) (allAt_all ⟨?_, ?_, ?_, ?_, ?_, ?_, ?_, ?_, ?_, ?_, ?_, ?_, ?_, ?_, ?_, ?_, ?_, ?_, trivial⟩) ?_ ?_
  case refine_1 => exact ⟨Keep2.start _ _ _, hP9.out.part, hP9.out.take⟩
  case refine_2 =>
    intro _ _ k vs W hR hv
    go_wp2
    exact PurePost.mk' (.pointer (some ⟨P, 0, none⟩)) (by rfl) rfl
  case refine_3 =>
    intro _ _ k vs W hR hv
    have e0 : vs 0 = .pointer (some ⟨P, 0, none⟩) := hv ⟨0, .data⟩ (by simp) rfl (by decide)
    simp only [e0]
    go_wp2
    exact PurePost.mk' (.pointer (some ⟨P, 0, none⟩)) (by rw [← e0]; rfl) rfl
  case refine_4 =>
    intro _ _ k vs W hR hv
    have e1 : vs 1 = .pointer (some ⟨P, 0, none⟩) := hv ⟨1, .data⟩ (by simp) rfl (by decide)
    simp only [e1]
    go_wp2
    exact PurePost.mk' (.pointer (some ⟨P, 2, none⟩)) (by rw [← e1]; rfl) rfl
  case refine_5 =>
    intro _ _ k vs W hR hv
    have e2 : vs 2 = .pointer (some ⟨P, 2, none⟩) := hv ⟨2, .data⟩ (by simp) rfl (by decide)
    obtain ⟨g2, g3, g4⟩ := hcells.out W (meetR_keep hR)
    simp only [e2]
    go_wp2
    exact PurePost.mk' (.map (some M1)) (by rw [← e2]; rfl) rfl
  case refine_6 =>
    intro _ _ k vs W hR hv
    go_wp2
    exact PurePost.mk' (.int .i64 p) (by rfl) rfl
  case refine_7 =>
    intro _ _ k vs W hR hv
    go_wp2
    exact PurePost.mk' (.pointer (some ⟨P, 0, none⟩)) (by rfl) rfl
  case refine_8 =>
    intro _ _ k vs W hR hv
    have e5 : vs 5 = .pointer (some ⟨P, 0, none⟩) := hv ⟨5, .data⟩ (by simp) rfl (by decide)
    simp only [e5]
    go_wp2
    exact PurePost.mk' (.pointer (some ⟨P, 0, none⟩)) (by rw [← e5]; rfl) rfl
  case refine_9 =>
    intro _ _ k vs W hR hv
    have e6 : vs 6 = .pointer (some ⟨P, 0, none⟩) := hv ⟨6, .data⟩ (by simp) rfl (by decide)
    simp only [e6]
    go_wp2
    exact PurePost.mk' (.pointer (some ⟨P, 3, none⟩)) (by rw [← e6]; rfl) rfl
  case refine_10 =>
    intro _ _ k vs W hR hv
    have e7 : vs 7 = .pointer (some ⟨P, 3, none⟩) := hv ⟨7, .data⟩ (by simp) rfl (by decide)
    obtain ⟨g2, g3, g4⟩ := hcells.out W (meetR_keep hR)
    simp only [e7]
    go_wp2
    exact PurePost.mk' (.map (some M2)) (by rw [← e7]; rfl) rfl
  case refine_11 =>
    intro _ _ k vs W hR hv
    go_wp2
    exact PurePost.mk' (.int .i64 q) (by rfl) rfl
  case refine_12 =>
    intro _ _ k vs W hR hv
    go_wp2
    exact PurePost.mk' (.int .i64 q) (by rfl) rfl
  case refine_13 =>
    intro _ _ k vs W hR hv
    go_wp2
    exact PurePost.mk' (.agg #[]) (by rfl) rfl
  case refine_14 => exact fun h => absurd (by decide) h
  case refine_15 => exact fun h => absurd (by decide) h
  case refine_16 => exact fun h => absurd (by decide) h
  case refine_17 => exact fun h => absurd (by decide) h
  case refine_18 => exact fun h => absurd (by decide) h
  case refine_19 => exact fun _ h => absurd h (by simp)
  case refine_20 =>
    intro k c o hq ho vs W hR hv
    match k, hq with
    | 0, hq =>
      obtain rfl : c = 12 := by simpa using hq.symm
      obtain rfl := Option.some.inj ho
      have e3 : vs 3 = .map (some M1) := hv ⟨3, .data⟩ (by simp) rfl (by decide)
      have e4 : vs 4 = .int .i64 p := hv ⟨4, .data⟩ (by simp) rfl (by decide)
      obtain ⟨hK, hP, hT⟩ := hR
      obtain ⟨v0, st, w1, hrun, hg, hmid⟩ := part_entry (q := q) hP (by rw [← hlnH.out]; exact hrow) (by omega) (by omega) hn1
      simp only [e3, e4]
      go_wp2
      exact ChainPost.mk' (.tuple #[v0, .int .i64 (st : Int)]) (by rw [← e3, ← e4]; rfl) ⟨hK.one hg, ⟨v0, st, rfl, hmid⟩, hT.kept hg (fun e => hMne (by cases e; rfl))⟩
    | 1, hq =>
      obtain rfl : c = 13 := by simpa using hq.symm
      obtain rfl := Option.some.inj ho
      obtain ⟨hK, ⟨v0, st, e12, hmid⟩, hT⟩ := hR
      simp only [e12]
      go_wp2
      exact ChainPost.mk' (.int .i64 (st : Int)) (by rw [← e12]; rfl) ⟨hK, ⟨st, rfl, hmid⟩, hT⟩
    | 2, hq =>
      obtain rfl : c = 14 := by simpa using hq.symm
      obtain rfl := Option.some.inj ho
      have e3 : vs 3 = .map (some M1) := hv ⟨3, .data⟩ (by simp) rfl (by decide)
      have e10 : vs 10 = .int .i64 q := hv ⟨10, .data⟩ (by simp) rfl (by decide)
      obtain ⟨hK, ⟨st, e13, hmid⟩, hT⟩ := hR
      obtain ⟨w3, hrun, hpm, hg⟩ := hmid W rfl
      simp only [e3, e10, e13]
      go_wp2
      exact ChainPost.mk' undef (by rw [← e3, ← e10, ← e13]; rfl) ⟨hK.one hg, hpm, hT.kept hg (fun e => hMne (by cases e; rfl))⟩
    | 3, hq =>
      obtain rfl : c = 15 := by simpa using hq.symm
      obtain rfl := Option.some.inj ho
      have e8 : vs 8 = .map (some M2) := hv ⟨8, .data⟩ (by simp) rfl (by decide)
      have e9 : vs 9 = .int .i64 q := hv ⟨9, .data⟩ (by simp) rfl (by decide)
      obtain ⟨hK, hP, hT⟩ := hR
      obtain ⟨v0, st, w1, hrun, hg, hmid⟩ := take_entry (p := p) (q := q) hT (by rw [← hlnH.out]; exact hrow) (by omega)
      simp only [e8, e9]
      go_wp2
      exact ChainPost.mk' (.tuple #[v0, .int .i64 (st : Int)]) (by rw [← e8, ← e9]; rfl) ⟨hK.two hg, hP.kept hg (fun e => hMne (by cases e; rfl)), v0, st, rfl, hmid⟩
    | 4, hq =>
      obtain rfl : c = 16 := by simpa using hq.symm
      obtain rfl := Option.some.inj ho
      obtain ⟨hK, hP, v0, st, e15, hmid⟩ := hR
      simp only [e15]
      go_wp2
      exact ChainPost.mk' (.int .i64 (st : Int)) (by rw [← e15]; rfl) ⟨hK, hP, st, rfl, hmid⟩
    | k + 5, hq => simp at hq
  case refine_21 =>
    intro o ho vs W hR hv
    obtain rfl := Option.some.inj ho
    have e8 : vs 8 = .map (some M2) := hv 8 (by simp) (by decide)
    have e11 : vs 11 = .agg #[] := hv 11 (by simp) (by decide)
    obtain ⟨hK, hP, st, e16, hmid⟩ := hR
    obtain ⟨W3, hrun, htk, hg⟩ := hmid W rfl
    have hK3 : Hid (Keep2 M1 M2 W9 W3) := hK.two hg
    have hP3 : Hid (PartMap W3 M1 (row ++ [(p, q)])) := hP.kept hg (fun e => hMne (by cases e; rfl))
    have hT3 : Hid (TakeMap W3 M2 (row ++ [(p, q)])) := htk
    obtain ⟨g2, g3, g4⟩ := hcells.out W3 hK3.out
    have hown3 : Hid (∀ o, (W3.alloc o).ownsRow w.heap.size 48 2 (.slice ra ln rc) ln (rowV row)) := fun o => by
      have := hK3.out.owned hP9.out o
      rw [← hlnH.out] at this; exact this
    have hsz : Hid (w.heap.size ≤ W3.heap.size) := Nat.le_trans hP9.out.hb.size hK3.out.size
    clear hK hP hmid htk hg hcells
    simp only [e8, e11, e16]
    clear e8 e11 e16 hv
    go_wp2_with (first
      | (refine wpList_append_own_at _ rfl (.tmp 83) (.tmp 87) 42 rfl w.heap.size 48 i2 (.agg #[.int .i64 0, .int .i64 0]) 2 16 Try.underlying42 hi2' hz2 hs2 hb2 rfl (by omega) _ ln _ rfl (hown3.out _) ⟨W3.heap.size, 0, none⟩ 1 1 [.int .i64 p, .int .i64 q] rfl rfl (cell_new2 _ _ _ _) (by simp [Value.oneCell']) (by unfold maxLen; omega) (by omega) (by have := hsz.out; simp; omega) ?_; intro v' W4 h1 h2 h3 h4; obtain ⟨va, vc, rfl⟩ := own_form h1; have g44 := (hP9.out.room hK3.out h2 4).1.trans hP9.out.p4; have g4f := (hP9.out.room hK3.out h2 4).2.trans hP9.out.pf))
    go_ret
    exact ⟨rfl, _, hP9.out.meet (p := p) (q := q) (W3 := W3) (W4 := W4) (rv' := .slice va (ln + 1) vc) hK3.out hP3.out hT3.out h2 (by rw [← hlnH.out]; exact h1) h4⟩
end Go.Proofs.Ytjhlbgohpofmnaa
