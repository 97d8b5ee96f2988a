import Derived.Test.YtjjccimeikkogaaGreatDoorLkW
import Derived.Test.YtjjccimeikkogaaGreatDoorLkO
namespace Go.Proofs.YtjjccimeikkogaaGreatDoor
set_option linter.unusedVariables false
open Go.Maps Go.WideMaps
open Go.ChangeShapes Go.WideShapes Go.ChangeAt Go.RowKit Go.Shelf
def isR (w w1 : World) (b0 : Nat) (ans : Bool) : Nat → (Nat → Value) → World → Prop
 | 0, _, W => Below w1.heap.size w1 W
 | 1, vs, W => Below b0 w W ∧ vs 9 = .bool ans
 | _ + 2, vs, W => Below b0 w W ∧ vs 10 = .bool ans
theorem isR_loc (w w1 : World) (b0 : Nat) (ans : Bool) : ∀ k vs i v W, i ∉ [9, 10] → isR w w1 b0 ans k vs W → isR w w1 b0 ans k (upd vs i v) W := by
 intro k vs i v W hi h
 have h9 : upd vs i v 9 = vs 9 := upd_other _ _ (fun e => hi (by simp [← e]))
 have h10 : upd vs i v 10 = vs 10 := upd_other _ _ (fun e => hi (by simp [← e]))
 match k, h with
 | 0, h => exact h
 | 1, h => show _ ∧ upd vs i v 9 = _; rw [h9]; exact h
 | _ + 2, h => show _ ∧ upd vs i v 10 = _; rw [h10]; exact h
def lv1 (L : List Value) : Nat → Value → Prop := fun i v => v = L.getD i undef
set_option maxRecDepth 1000000 in
set_option maxHeartbeats 8000000 in
theorem iAs (takes : List UInt8 → Bool) (t u : ByteArray) (w : World) (b0 P : Nat) (all : List ClassL) (av ov : Value) (M J R rc : Nat) (D : DataW Unit) (hok : AllOk all) (h3 : 3 ≤ all.length) (hsp : SpcAt w b0 P all av ov M J R rc D) (hb0 : b0 ≤ w.heap.size) (hts : t.size ≤ 1048576) (hus : u.size ≤ 1048576)
  (hT : ∀ s W, s.size ≤ 1048576 → Below w.heap.size w W → Calls Tryz.prog 65 (#[.string s] ++ #[]) W fun e w' => e = .returned (.bool (takes s.data.toList)) ∧ Below W.heap.size W w')
  (hrec : ∀ (t' u' : ByteArray) (W : World), 0 < t.size → t'.data.toList = t.data.toList.tail → u'.data.toList = u.data.toList.tail → Below w.heap.size w W → Calls Tryz.prog 64 #[.pointer (some ⟨P, 0, none⟩), .string t', .string u', .func (.func 65) #[] #[]] W fun e w' => e = .returned (.bool (isofI (abvB all) takes t'.data.toList u'.data.toList)) ∧ Below b0 W w') :
  Calls Tryz.prog 64 #[.pointer (some ⟨P, 0, none⟩), .string t, .string u, .func (.func 65) #[] #[]] w fun e w' => e = .returned (.bool (isofI (abvB all) takes t.data.toList u.data.toList)) ∧ Below b0 w w' := by
 have hku : Hid (∀ W, Calls Tryz.prog 92 #[.string u] W fun e w' => e = .returned (.int .i64 (kindL u.data.toList)) ∧ Below W.heap.size W w') := fun W => implKind_calls u W (by omega)
 have hwt : Hid (∀ W, Calls Tryz.prog 93 #[.string t] W fun e w' => e = .returned (.bool (wholeL t.data.toList)) ∧ Below W.heap.size W w') := fun W => whole_calls t W (by omega)
 rw [isofI_one]
 have hcum : Below w.heap.size w w := Below.refl _ _
 by_cases h0 : kindL u.data.toList = 0
 ·rw [if_pos h0]
  rw [h0] at hku
  clear hsp hT hrec h0 hwt
  go_enter Tryz.func64, Tryz.ntmps64
  go_wp2_with (go_at_call 92; refine (hku.out _).mono ?_; rintro e w' ⟨rfl, hb⟩; replace hcum := below_on2 hcum hb; clear hb)
  go_ret
  exact ⟨rfl, hcum.mono hb0⟩
 rw [if_neg h0]
 have g0 : (kindL u.data.toList == 0) = false := by simpa using h0
 by_cases he : t.data.toList = u.data.toList
 ·rw [if_pos he]
  have e1 : (t.toList == u.toList) = true := by rw [ByteArray.toList_eq, ByteArray.toList_eq, he]; simp
  generalize kindL u.data.toList = k at *
  clear hsp hT hrec h0 hwt he
  go_enter Tryz.func64, Tryz.ntmps64
  go_wp2_with (go_at_call 92; refine (hku.out _).mono ?_; rintro e w' ⟨rfl, hb⟩; replace hcum := below_on2 hcum hb; clear hb)
  go_ret
  exact ⟨rfl, hcum.mono hb0⟩
 rw [if_neg he]
 have e1 : (t.toList == u.toList) = false := by rw [ByteArray.toList_eq, ByteArray.toList_eq, beq_eq_false_iff_ne]; exact he
 by_cases h4 : ¬ kindL u.data.toList = 4
 ·rw [if_pos (.inl h4)]
  have g4 : (kindL u.data.toList == 4) = false := by simpa using h4
  have g4' : (kindL u.data.toList != 4) = true := by simpa using h4
  generalize kindL u.data.toList = k at *
  clear hsp hT hrec h0 hwt he
  go_enter Tryz.func64, Tryz.ntmps64
  go_wp2_with (go_at_call 92; refine (hku.out _).mono ?_; rintro e w' ⟨rfl, hb⟩; replace hcum := below_on2 hcum hb; clear hb)
  go_ret
  exact ⟨rfl, hcum.mono hb0⟩
 have h4 : kindL u.data.toList = 4 := Classical.not_not.1 h4
 by_cases hw : ¬ wholeL t.data.toList = true
 ·have hwf : wholeL t.data.toList = false := by simpa using hw
  rw [if_pos (.inr (by rw [hwf]; rfl))]
  rw [hwf] at hwt
  rw [h4] at hku
  clear hsp hT hrec h0 he h4 hw hwf g0
  go_enter Tryz.func64, Tryz.ntmps64
  go_wp2_with (first
   | (go_at_call 92; refine (hku.out _).mono ?_; rintro e w' ⟨rfl, hb⟩; replace hcum := below_on2 hcum hb; clear hb)
   | (go_at_call 93; refine (hwt.out _).mono ?_; rintro e w' ⟨rfl, hb⟩; replace hcum := below_on2 hcum hb; clear hb))
  go_ret
  exact ⟨rfl, hcum.mono hb0⟩
 have hw : wholeL t.data.toList = true := Classical.not_not.1 hw
 rw [if_neg (by rw [hw]; simp [h4])]
 rw [hw] at hwt
 rw [h4] at hku
 by_cases hz : t.data.toList = [48]
 ·rw [if_pos hz]
  have ez : (t.toList == [48]) = true := by rw [ByteArray.toList_eq, hz]; rfl
  clear hsp hT hrec h0 he h4 hw g0 hz
  go_enter Tryz.func64, Tryz.ntmps64
  go_wp2_with (first
   | (go_at_call 92; refine (hku.out _).mono ?_; rintro e w' ⟨rfl, hb⟩; replace hcum := below_on2 hcum hb; clear hb)
   | (go_at_call 93; refine (hwt.out _).mono ?_; rintro e w' ⟨rfl, hb⟩; replace hcum := below_on2 hcum hb; clear hb))
  go_ret
  exact ⟨rfl, hcum.mono hb0⟩
 rw [if_neg hz]
 have ez : (t.toList == [48]) = false := by rw [ByteArray.toList_eq, beq_eq_false_iff_ne]; exact hz
 have hrt : refL t.data.toList = true := by
  unfold wholeL at hw
  rwa [decide_eq_false hz, Bool.false_or] at hw
 have hpt := ref_pos hrt
 have hpu : 0 < u.size := ref_pos (decide_eq_true h4)
 have htu : atR u.data.toList = true → (cutS u).data.toList = u.data.toList.tail := cutS_tail
 have htt : atR t.data.toList = true → (cutS t).data.toList = t.data.toList.tail := cutS_tail
 have szu : (cutS u).size ≤ 1048576 := cutS_size hus
 have szt : (cutS t).size ≤ 1048576 := cutS_size hts
 have hcut : Hid (∀ s b W, Tells atR s b → Calls Tryz.prog 94 #[.string s, .string ⟨#[64]⟩] W fun e w' => e = .returned (.tuple #[.string (cutS s), .bool b]) ∧ w' = W) := fun s b W h => by rw [← h.eq]; exact cut_calls s W
 have hTH : Hid (∀ W, Below w.heap.size w W → Calls Tryz.prog 65 (#[.string (cutS u)] ++ #[]) W fun e w' => e = .returned (.bool (takes (cutS u).data.toList)) ∧ Below W.heap.size W w') := fun W => hT _ W szu
 have hHA : Hid (∀ W, Below w.heap.size w W → Calls Tryz.prog 95 #[.pointer (some ⟨P, 0, none⟩), .string (cutS t), .string (cutS u)] W fun e w' => e = .returned (.bool (abvB all (cutS t).data.toList (cutS u).data.toList)) ∧ Below b0 W w') := fun W hW =>
  hasAbove_calls _ _ W b0 P all av ov M J R rc D hok h3 (hsp.below hW) szt szu
 have hpt1 : (1 : Int) ≤ (t.size : Int) := by omega
 have hpu1 : (1 : Int) ≤ (u.size : Int) := by omega
 have hRH : Hid (∀ W, Below w.heap.size w W → Calls Tryz.prog 64 #[.pointer (some ⟨P, 0, none⟩), .string (t.extract 1 t.size), .string (u.extract 1 u.size), .func (.func 65) #[] #[]] W fun e w' => e = .returned (.bool (isofI (abvB all) takes t.data.toList.tail u.data.toList.tail)) ∧ Below b0 W w') := fun W hW => by
  have := hrec (t.extract 1 t.size) (u.extract 1 u.size) W hpt (ext_tail t) (ext_tail u) hW
  rwa [ext_tail, ext_tail] at this
 clear hsp hT hrec h0 he h4 hw g0 hz hrt szu szt
 cases hau : atR u.data.toList with
 | true =>
  have tU : Tells atR u true := ⟨hau⟩
  rw [htu hau] at hTH hHA
  cases htk : takes u.data.toList.tail with
  | true =>
   rw [htk] at hTH
   simp only [Bool.true_and, if_true]
   clear hHA hRH htu htt hau htk
   go_enter Tryz.func64, Tryz.ntmps64
   go_wp2_with (first
    | (go_at_call 92; refine (hku.out _).mono ?_; rintro e w' ⟨rfl, hb⟩; replace hcum := below_on2 hcum hb; clear hb)
    | (go_at_call 93; refine (hwt.out _).mono ?_; rintro e w' ⟨rfl, hb⟩; replace hcum := below_on2 hcum hb; clear hb)
    | (go_at_call 94; refine (hcut.out _ _ _ (by assumption)).mono ?_; rintro e w' ⟨rfl, he⟩; subst he)
    | (go_at_call 65; refine (hTH.out _ hcum).mono ?_; rintro e w' ⟨rfl, hb⟩; replace hcum := below_on2 hcum hb; clear hb))
   go_ret
   exact ⟨rfl, hcum.mono hb0⟩
  | false =>
   rw [htk] at hTH
   simp only [Bool.true_and, Bool.not_true, Bool.false_and, Bool.false_eq_true, if_false]
   cases hat : atR t.data.toList with
   | true =>
    have tT : Tells atR t true := ⟨hat⟩
    rw [htt hat] at hHA
    simp only [if_true]
    generalize abvB all t.data.toList.tail u.data.toList.tail = ans at *
    clear hRH htu htt hau htk hat
    go_enter Tryz.func64, Tryz.ntmps64
    go_wp2_with (first
     | (go_at_call 92; refine (hku.out _).mono ?_; rintro e w' ⟨rfl, hb⟩; replace hcum := below_on2 hcum hb; clear hb)
     | (go_at_call 93; refine (hwt.out _).mono ?_; rintro e w' ⟨rfl, hb⟩; replace hcum := below_on2 hcum hb; clear hb)
     | (go_at_call 94; refine (hcut.out _ _ _ (by assumption)).mono ?_; rintro e w' ⟨rfl, he⟩; subst he)
     | (go_at_call 65; refine (hTH.out _ hcum).mono ?_; rintro e w' ⟨rfl, hb⟩; replace hcum := below_on2 hcum hb; clear hb)
     | (go_at_call 95; refine (hHA.out _ hcum).mono ?_; rintro e w' ⟨rfl, hb⟩; have hfin := (hcum.mono hb0).trans hb; clear hb))
    go_ret
    exact ⟨rfl, hfin⟩
   | false =>
    have tT : Tells atR t false := ⟨hat⟩
    simp only [Bool.false_eq_true, if_false]
    clear hHA hRH htu htt hau htk hat
    go_enter Tryz.func64, Tryz.ntmps64
    go_wp2_with (first
     | (go_at_call 92; refine (hku.out _).mono ?_; rintro e w' ⟨rfl, hb⟩; replace hcum := below_on2 hcum hb; clear hb)
     | (go_at_call 93; refine (hwt.out _).mono ?_; rintro e w' ⟨rfl, hb⟩; replace hcum := below_on2 hcum hb; clear hb)
     | (go_at_call 94; refine (hcut.out _ _ _ (by assumption)).mono ?_; rintro e w' ⟨rfl, he⟩; subst he)
     | (go_at_call 65; refine (hTH.out _ hcum).mono ?_; rintro e w' ⟨rfl, hb⟩; replace hcum := below_on2 hcum hb; clear hb))
    go_region
    all_goals (go_wp2; go_ret; refine ⟨rfl, ?_⟩; repeat (first | exact hcum.mono hb0 | refine Below.drew ?_))
 | false =>
  have tU : Tells atR u false := ⟨hau⟩
  simp only [Bool.false_and, Bool.false_eq_true, if_false]
  cases hat : atR t.data.toList with
  | true =>
   have tT : Tells atR t true := ⟨hat⟩
   simp only [if_true]
   clear hTH hHA hRH htu htt hau hat
   go_enter Tryz.func64, Tryz.ntmps64
   go_wp2_with (first
    | (go_at_call 92; refine (hku.out _).mono ?_; rintro e w' ⟨rfl, hb⟩; replace hcum := below_on2 hcum hb; clear hb)
    | (go_at_call 93; refine (hwt.out _).mono ?_; rintro e w' ⟨rfl, hb⟩; replace hcum := below_on2 hcum hb; clear hb)
    | (go_at_call 94; refine (hcut.out _ _ _ (by assumption)).mono ?_; rintro e w' ⟨rfl, he⟩; subst he))
   go_ret
   exact ⟨rfl, hcum.mono hb0⟩
  | false =>
   have tT : Tells atR t false := ⟨hat⟩
   simp only [Bool.false_eq_true, if_false, Bool.not_false, Bool.true_and]
   generalize isofI (abvB all) takes t.data.toList.tail u.data.toList.tail = ans at *
   clear hTH hHA htu htt hau hat
   go_enter Tryz.func64, Tryz.ntmps64
   go_wp2_with (first
    | (go_at_call 92; refine (hku.out _).mono ?_; rintro e w' ⟨rfl, hb⟩; replace hcum := below_on2 hcum hb; clear hb)
    | (go_at_call 93; refine (hwt.out _).mono ?_; rintro e w' ⟨rfl, hb⟩; replace hcum := below_on2 hcum hb; clear hb)
    | (go_at_call 94; refine (hcut.out _ _ _ (by assumption)).mono ?_; rintro e w' ⟨rfl, he⟩; subst he))
   clear hcut tU tT hku hwt e1 ez hok h3
   refine wp_region_chain (by kernel_rfl) (fun vs => { tmps := #[.pointer (some ⟨P, 0, none⟩), .string t, .string u, .func (.func 65) #[] #[], undef, undef, undef, undef, vs 11, .string (cutS u), .bool false, .string (cutS t), .bool false, .bool false, .string u, .int .i64 4, .bool false, .bool false, .string t, .string u, .bool false, .bool false, .string u, .int .i64 4, .bool false, .bool false, .string t, .bool true, .bool false, .bool false, .bool false, .string t, .bool false, Value.tuple #[.string (cutS u), .bool false], .string u, Value.tuple #[.string (cutS u), .bool false], .string (cutS u), .bool false, .bool false, .bool false, undef, undef, undef, .bool false, Value.tuple #[.string (cutS t), .bool false], .string t, Value.tuple #[.string (cutS t), .bool false], .string (cutS t), .bool false, .bool false, undef, undef, undef, undef, undef, undef, undef, vs 0, vs 1, vs 2, vs 3, vs 4, vs 5, vs 6, vs 7, vs 8, vs 9, vs 10], defers := [] }) [9, 10] (lv1 [.bool false, .bool true, .bool true, .pointer (some ⟨P, 0, none⟩), .string t, .string (t.extract 1 t.size), .string u, .string (u.extract 1 u.size), .func (.func 65) #[] #[], .bool ans, .bool ans]) (isR w w' b0 ans) (fun i => if i = 11 then .bool false else undef) rfl (by kernel_rfl) ?_ (isR_loc _ _ _ _) (allOps_all ⟨?_, ?_, ?_, ?_, ?_, ?_, ?_, ?_, ?_, ?_, ?_, ?_, trivial⟩) ?_ ?_
   case refine_1 => exact Below.drew (Below.refl _ _)
   case refine_2 =>
    intro _ _ kk vs W hR hv
    clear hv hR
    go_wp2
    exact PurePost.mk' (.bool false) (by rfl) rfl
   case refine_3 =>
    intro _ _ kk vs W hR hv
    have e0 : vs 0 = .bool false := hv ⟨0, .data⟩ (by simp) rfl (by decide)
    clear hv hR
    simp only [e0]
    go_wp2
    exact PurePost.mk' (.bool true) (by first | (simp [upd, e0]; done) | (show _ = _; rw [← e0]; rfl)) rfl
   case refine_4 =>
    intro _ _ kk vs W hR hv
    have e1 : vs 1 = .bool true := hv ⟨1, .data⟩ (by simp) rfl (by decide)
    clear hv hR
    simp only [e1]
    go_wp2
    exact PurePost.mk' (.bool true) (by first | (simp [upd, e1]; done) | (show _ = _; rw [← e1]; rfl)) rfl
   case refine_5 =>
    intro _ _ kk vs W hR hv
    have e2 : vs 2 = .bool true := hv ⟨2, .guard⟩ (by simp) rfl (by decide)
    clear hv hR
    simp only [e2]
    go_wp2
    exact PurePost.mk' (.pointer (some ⟨P, 0, none⟩)) (by first | (simp [upd, e2]; done) | (show _ = _; rw [← e2]; rfl)) rfl
   case refine_6 =>
    intro _ _ kk vs W hR hv
    have e2 : vs 2 = .bool true := hv ⟨2, .guard⟩ (by simp) rfl (by decide)
    clear hv hR
    simp only [e2]
    go_wp2
    exact PurePost.mk' (.string t) (by first | (simp [upd, e2]; done) | (show _ = _; rw [← e2]; rfl)) rfl
   case refine_7 =>
    intro _ _ kk vs W hR hv
    have e4 : vs 4 = .string t := hv ⟨4, .data⟩ (by simp) rfl (by decide)
    have e2 : vs 2 = .bool true := hv ⟨2, .guard⟩ (by simp) rfl (by decide)
    clear hv hR
    simp only [e4, e2]
    go_wp2
    exact PurePost.mk' (.string (t.extract 1 t.size)) (by first | (simp [upd, e4, e2]; done) | (show _ = _; rw [← e4, ← e2]; rfl)) rfl
   case refine_8 =>
    intro _ _ kk vs W hR hv
    have e2 : vs 2 = .bool true := hv ⟨2, .guard⟩ (by simp) rfl (by decide)
    clear hv hR
    simp only [e2]
    go_wp2
    exact PurePost.mk' (.string u) (by first | (simp [upd, e2]; done) | (show _ = _; rw [← e2]; rfl)) rfl
   case refine_9 =>
    intro _ _ kk vs W hR hv
    have e6 : vs 6 = .string u := hv ⟨6, .data⟩ (by simp) rfl (by decide)
    have e2 : vs 2 = .bool true := hv ⟨2, .guard⟩ (by simp) rfl (by decide)
    clear hv hR
    simp only [e6, e2]
    go_wp2
    exact PurePost.mk' (.string (u.extract 1 u.size)) (by first | (simp [upd, e6, e2]; done) | (show _ = _; rw [← e6, ← e2]; rfl)) rfl
   case refine_10 =>
    intro _ _ kk vs W hR hv
    have e2 : vs 2 = .bool true := hv ⟨2, .guard⟩ (by simp) rfl (by decide)
    clear hv hR
    simp only [e2]
    go_wp2
    exact PurePost.mk' (.func (.func 65) #[] #[]) (by first | (simp [upd, e2]; done) | (show _ = _; rw [← e2]; rfl)) rfl
   case refine_11 => exact fun h => absurd (by decide) h
   case refine_12 => exact fun h => absurd (by decide) h
   case refine_13 => exact fun _ h => absurd h (by simp)
   case refine_14 =>
    intro jj q o hq ho vs W hR hv
    match jj, hq with
    | 0, hq =>
     obtain rfl : q = 9 := by simpa using hq.symm
     obtain rfl := Option.some.inj ho
     have e3 : vs 3 = .pointer (some ⟨P, 0, none⟩) := hv ⟨3, .data⟩ (by simp) rfl (by decide)
     have e5 : vs 5 = .string (t.extract 1 t.size) := hv ⟨5, .data⟩ (by simp) rfl (by decide)
     have e7 : vs 7 = .string (u.extract 1 u.size) := hv ⟨7, .data⟩ (by simp) rfl (by decide)
     have e8 : vs 8 = .func (.func 65) #[] #[] := hv ⟨8, .data⟩ (by simp) rfl (by decide)
     have e2 : vs 2 = .bool true := hv ⟨2, .chain⟩ (by simp) rfl (by decide)
     have hB : Below w'.heap.size w' W := hR
     clear hv hR
     simp only [e3, e5, e7, e8, e2]
     go_wp2_with (go_at_call 64; refine (hRH.out _ (below_on2 hcum hB)).mono ?_; rintro e w9 ⟨rfl, hb9⟩)
     exact ChainPost.mk' (.bool ans) (by first | (simp [upd, e3, e5, e7, e8, e2]; done) | rfl) ⟨((below_on2 hcum hB).mono hb0).trans hb9, by rw [upd_same]⟩
    | 1, hq =>
     obtain rfl : q = 10 := by simpa using hq.symm
     obtain rfl := Option.some.inj ho
     have e2 : vs 2 = .bool true := hv ⟨2, .data⟩ (by simp) rfl (by decide)
     obtain ⟨hB, e9⟩ := hR
     clear hv
     simp only [e2, e9]
     go_wp2
     exact ChainPost.mk' (.bool ans) (by first | (simp [upd, e2, e9]; done) | rfl) ⟨hB, by rw [upd_same]⟩
    | jj + 2, hq => simp at hq
   case refine_15 =>
    intro o ho vs W hR hv
    obtain rfl := Option.some.inj ho
    obtain ⟨hB, e10⟩ := hR
    clear ho hv
    simp only [e10]
    go_wp2
    go_ret
    exact ⟨rfl, hB⟩
end Go.Proofs.YtjjccimeikkogaaGreatDoor
