/- The specification's heap: an op. -/
import Derived.Test.YtchcdlelaklnnaaKsM
import Derived.Laws.Tables
import Derived.Laws.Rows
namespace Go.Proofs.Ytchcdlelaklnnaa
set_option linter.unusedVariables false
open Go.ChangeShapes Go.WideShapes Go.ChangeAt Go.RowKit

theorem DoR.mk' {w W : World} {F G : Nat → Prop} {H : Nat} {s T : StM} {ps fs : List Nat} {ov : Value} {R : Nat} {qv : Value} {bx : Nat} {op : OpM} {gv : Value} {cd : Int} {gl : List Int} (h : DoS w W F G H T ps fs ov R qv bx op #[.int .i64 cd, .int .i64 0, .int .i64 0, gv] gv) (hT : doM s op = T) (hc : codeM s op = cd) (hg : (ansM s op).gone = gl) (ho : OutAt w.heap.size W gv gl) : DoR w F H s R bx op W := by
  subst hT
  subst hc
  subst hg
  exact ⟨_, _, _, _, _, _, h, ho⟩
theorem goneOf {s : StM} {op : OpM} (h : op.kind ≠ 8) : (ansM s op).gone = [] := by simp [ansM, h]
theorem isR_nat {n : Int} (h : isR n = true) : ∃ m : Nat, n = m ∧ m < 8 := by
  have := isR_iff.1 h
  exact ⟨n.toNat, by omega, by omega⟩
/-- An op that is done: its parts. -/
theorem okM_kinds {s : StM} {kind a b c : Int} (h : okM s ⟨kind, a, b, c⟩ = true) :
    (kind = 1 ∧ (∃ m : Nat, a = m ∧ m < 8) ∧ (∃ k : Nat, b = k ∧ k ≤ 6) ∧ s.obs.length < 400) ∨ (kind = 2 ∨ kind = 3 ∨ kind = 4) ∧ (∃ m : Nat, a = m ∧ m < 8) ∧ (∃ m : Nat, b = m ∧ m < 8) ∨ (kind = 5 ∧ ∃ m : Nat, a = m ∧ m < 8) ∨ (kind = 7 ∧ ∃ m : Nat, a = m ∧ m ≤ 100) ∨ kind = 6 ∨ kind = 8 := by
  unfold okM at h
  simp only at h
  by_cases k1 : kind = 1
  · rw [if_pos k1] at h
    simp only [Bool.and_eq_true, decide_eq_true_eq] at h
    exact .inl ⟨k1, isR_nat h.1.1, ⟨b.toNat, by omega, by omega⟩, by omega⟩
  rw [if_neg k1] at h
  by_cases k2 : kind = 2 ∨ kind = 3 ∨ kind = 4
  · rw [if_pos k2] at h
    simp only [Bool.and_eq_true] at h
    exact .inr (.inl ⟨k2, isR_nat h.1, isR_nat h.2⟩)
  rw [if_neg k2] at h
  by_cases k5 : kind = 5
  · rw [if_pos k5] at h
    exact .inr (.inr (.inl ⟨k5, isR_nat h⟩))
  rw [if_neg k5] at h
  by_cases k7 : kind = 7
  · rw [if_pos k7] at h
    simp only [Bool.and_eq_true, decide_eq_true_eq] at h
    exact .inr (.inr (.inr (.inl ⟨k7, a.toNat, by omega, by omega⟩)))
  rw [if_neg k7] at h
  simp only [Bool.or_eq_true, decide_eq_true_eq] at h
  rcases h with h | h
  · exact .inr (.inr (.inr (.inr (.inl h))))
  · exact .inr (.inr (.inr (.inr (.inr h))))
theorem code_plain {s : StM} {op : OpM} (h : okM s op = true) (h2 : op.kind ≠ 2) (h3 : op.kind ≠ 3) (h6 : op.kind < 6) : codeM s op = 0 := by
  unfold codeM
  rw [if_neg (by rw [h]; simp), if_neg h2, if_neg h3, if_neg (by omega)]
theorem code_2 {s : StM} {a b c : Int} (h : okM s ⟨2, a, b, c⟩ = true) : codeM s ⟨2, a, b, c⟩ = fcodeM s (rootM s b) c := by
  unfold codeM
  rw [if_neg (by rw [h]; simp), if_pos rfl]
theorem code_3 {s : StM} {a b c : Int} (h : okM s ⟨3, a, b, c⟩ = true) : codeM s ⟨3, a, b, c⟩ = fcodeM s (rootM s a) c := by
  unfold codeM
  rw [if_neg (by rw [h]; simp), if_neg (by show ¬ (3 : Int) = 2; omega), if_pos rfl]
theorem code_bad {s : StM} {op : OpM} (h : okM s op = false) : codeM s op = 1 := by
  unfold codeM
  rw [if_pos h]
theorem do_not {s : StM} {op : OpM} (h : codeM s op ≠ 0) : doM s op = s := by unfold doM; rw [if_neg h]
theorem gone_not0 {s : StM} {op : OpM} (h : codeM s op ≠ 0) : (ansM s op).gone = [] := by simp [ansM, h]
set_option maxRecDepth 100000 in
set_option maxHeartbeats 8000000 in
theorem do_calls (w : World) (F : Nat → Prop) (H : Nat) (s : StM) (ps fs : List Nat) (ov : Value) (R : Nat) (qv : Value) (op : OpM) (h : SpW w F H s ps fs ov R qv) (hgd : GoodM s) :
    Calls Try.prog 23 #[.pointer (some ⟨H, 0, none⟩), opV op] w fun e w' => ∃ gv, e = .returned (.agg #[.int .i64 (ansM s op).code, .int .i64 (ansM s op).n, .int .i64 (ansM s op).grey, gv]) ∧ OutAt w.heap.size w' gv (ansM s op).gone ∧ (∃ ps' fs' ov' qv', SpW w' (fun k => F k ∨ gv.ownBlock = some k) H (doM s op) ps' fs' ov' R qv') ∧ Keep F w w' := by
  have hI : Hid (InvM s) := hgd.inv
  have hl : s.obs.length ≤ 400 := hgd.len
  have h6 : Hid (∀ o ∈ s.obs, o.flds.length ≤ 6) := hgd.fl
  have hmd : Hid (s.mode = 1 ∨ s.mode = 2) := hgd.md
  have hgH : Hid (GoodM s) := hgd
  have hD0 : Hid _ := DoS.start h op
  have hFl : Hid (∀ k, F k → k < w.heap.size) := h.lo.2.2
  clear hgd h
  obtain ⟨kind, a, b, c⟩ := op
  unfold opV
  simp only
  go_enter Try.func23, Try.ntmps23
  go_upto_block 0 with fail
  obtain ⟨bx, hbx⟩ : ∃ bx, bx = w.heap.size := ⟨_, rfl⟩
  have hbxH : Hid (bx = w.heap.size) := hbx
  rw [← hbx] at hD0 ⊢
  clear hbx
  rw [show bx + 1 + 1 = bx + 2 from rfl]
  generalize (fun k => ((F k ∨ k = bx) ∨ k = bx + 1) ∨ k = bx + 2) = G at hD0
  simp only at hD0
  generalize (((w.alloc (.cells #[.int .i64 kind, .int .i64 a, .int .i64 b, .int .i64 c] 27)).alloc (.cells #[.int .i64 0, .int .i64 0, .int .i64 0, .slice none 0 0] 43)).alloc (.cells #[.int .i64 0, .int .i64 0, .int .i64 0, .slice none 0 0] 43)) = W0 at hD0 ⊢
  go_cut [] (fun wc => Hid (DoR w F H s R bx ⟨kind, a, b, c⟩ wc))
  case first =>
    cases hok : okM s ⟨kind, a, b, c⟩ with
    | false =>
      have hop : Hid (Calls Try.prog 42 #[.pointer (some ⟨H, 0, none⟩), .agg #[.int .i64 kind, .int .i64 a, .int .i64 b, .int .i64 c]] W0 fun e w' => e = .returned (.bool false) ∧ Below W0.heap.size W0 w') := by
        have := opOk_calls W0 G H s ps fs ov R qv ⟨kind, a, b, c⟩ hD0.out.sp
        rw [hok] at this
        exact this
      have y0 : W0.cell? ⟨bx, 0, none⟩ = some (.int .i64 kind) := cell_of hD0.out.b0 rfl; have y1 : W0.cell? ⟨bx, 1, none⟩ = some (.int .i64 a) := cell_of hD0.out.b0 rfl; have y2 : W0.cell? ⟨bx, 2, none⟩ = some (.int .i64 b) := cell_of hD0.out.b0 rfl; have y3 : W0.cell? ⟨bx, 3, none⟩ = some (.int .i64 c) := cell_of hD0.out.b0 rfl
      have hfin : Hid (codeM s ⟨kind, a, b, c⟩ = 1 ∧ doM s ⟨kind, a, b, c⟩ = s ∧ (ansM s ⟨kind, a, b, c⟩).gone = []) := by
        have h1 := code_bad hok
        exact ⟨h1, do_not (by omega), gone_not0 (by omega)⟩
      clear hok
      go_wp2_with (go_at_call 42; refine (show Calls _ _ _ _ _ from hop.out).mono ?_; rintro e W1 ⟨rfl, hB1⟩; have D1 : Hid _ := hD0.out.below hB1; have x0 : W1.cell? ⟨bx, 0, none⟩ = some (.int .i64 kind) := cell_of D1.out.b0 rfl; have x1 : W1.cell? ⟨bx, 1, none⟩ = some (.int .i64 a) := cell_of D1.out.b0 rfl; have x2 : W1.cell? ⟨bx, 2, none⟩ = some (.int .i64 b) := cell_of D1.out.b0 rfl; have x3 : W1.cell? ⟨bx, 3, none⟩ = some (.int .i64 c) := cell_of D1.out.b0 rfl; have xo : W1.cell? ⟨bx + 2, 0, none⟩ = some (.int .i64 0) := cell_of D1.out.b2 rfl; have xf : W1.frozen? ⟨bx + 2, 0, none⟩ = false := free_of D1.out.b2; clear hB1 hop y0 y1 y2 y3)
      go_meet
      exact DoR.mk' (D1.out.set 0 (.int .i64 1)) hfin.out.2.1 hfin.out.1 hfin.out.2.2 (out_nil _ _)
    | true =>
      rcases okM_kinds hok with ⟨rfl, ⟨a, rfl, ha⟩, ⟨b, rfl, hb⟩, hlt⟩ | ⟨k2, ⟨a, rfl, ha⟩, ⟨b, rfl, hb⟩⟩ | ⟨rfl, ⟨a, rfl, ha⟩⟩ | ⟨rfl, ⟨a, rfl, ha⟩⟩ | rfl | rfl
      case inl =>
        have hop : Hid (Calls Try.prog 42 #[.pointer (some ⟨H, 0, none⟩), .agg #[.int .i64 1, .int .i64 a, .int .i64 b, .int .i64 c]] W0 fun e w' => e = .returned (.bool true) ∧ Below W0.heap.size W0 w') := by
          have := opOk_calls W0 G H s ps fs ov R qv ⟨1, a, b, c⟩ hD0.out.sp
          rw [hok] at this
          exact this
        have y0 : W0.cell? ⟨bx, 0, none⟩ = some (.int .i64 1) := cell_of hD0.out.b0 rfl; have y1 : W0.cell? ⟨bx, 1, none⟩ = some (.int .i64 a) := cell_of hD0.out.b0 rfl; have y2 : W0.cell? ⟨bx, 2, none⟩ = some (.int .i64 b) := cell_of hD0.out.b0 rfl; have y3 : W0.cell? ⟨bx, 3, none⟩ = some (.int .i64 c) := cell_of hD0.out.b0 rfl
        have hc := code_plain hok (by show (1 : Int) ≠ 2; omega) (by show (1 : Int) ≠ 3; omega) (by show (1 : Int) < 6; omega)
        have hfin : Hid (codeM s ⟨1, a, b, c⟩ = 0 ∧ doM s ⟨1, a, b, c⟩ = makeM s a b ∧ (ansM s ⟨1, a, b, c⟩).gone = []) := ⟨hc, by simp [doM, hc, actM], goneOf (by show (1 : Int) ≠ 8; omega)⟩
        clear hok hc
        go_wp2_with (first
          | (go_at_call 42; refine (show Calls _ _ _ _ _ from hop.out).mono ?_; rintro e W1 ⟨rfl, hB1⟩; have D1 : Hid _ := hD0.out.below hB1; have x0 : W1.cell? ⟨bx, 0, none⟩ = some (.int .i64 1) := cell_of D1.out.b0 rfl; have x1 : W1.cell? ⟨bx, 1, none⟩ = some (.int .i64 a) := cell_of D1.out.b0 rfl; have x2 : W1.cell? ⟨bx, 2, none⟩ = some (.int .i64 b) := cell_of D1.out.b0 rfl; have x3 : W1.cell? ⟨bx, 3, none⟩ = some (.int .i64 c) := cell_of D1.out.b0 rfl; have xo : W1.cell? ⟨bx + 2, 0, none⟩ = some (.int .i64 0) := cell_of D1.out.b2 rfl; have xf : W1.frozen? ⟨bx + 2, 0, none⟩ = false := free_of D1.out.b2; clear hB1 hop y0 y1 y2 y3)
          | (go_at_call 43; refine (make_calls W1 G H s ps fs ov R qv 1 c a b D1.out.sp hI.out.rl hlt ha hb).mono ?_; rintro e W2 ⟨rfl, ⟨ps', fs', ov', hS2⟩, hK2⟩; have D2 : Hid _ := D1.out.keep hS2 hK2))
        go_meet
        exact DoR.mk' D2.out hfin.out.2.1 hfin.out.1 hfin.out.2.2 (out_nil _ _)
      case inr.inl =>
        rcases k2 with rfl | rfl | rfl
        case inl =>
          have hop : Hid (Calls Try.prog 42 #[.pointer (some ⟨H, 0, none⟩), .agg #[.int .i64 2, .int .i64 a, .int .i64 b, .int .i64 c]] W0 fun e w' => e = .returned (.bool true) ∧ Below W0.heap.size W0 w') := by
            have := opOk_calls W0 G H s ps fs ov R qv ⟨2, a, b, c⟩ hD0.out.sp
            rw [hok] at this
            exact this
          have y0 : W0.cell? ⟨bx, 0, none⟩ = some (.int .i64 2) := cell_of hD0.out.b0 rfl; have y1 : W0.cell? ⟨bx, 1, none⟩ = some (.int .i64 a) := cell_of hD0.out.b0 rfl; have y2 : W0.cell? ⟨bx, 2, none⟩ = some (.int .i64 b) := cell_of hD0.out.b0 rfl; have y3 : W0.cell? ⟨bx, 3, none⟩ = some (.int .i64 c) := cell_of hD0.out.b0 rfl
          have hc := code_2 hok
          have hfin0 : doM s ⟨2, a, b, c⟩ = (if fcodeM s (rootM s b) c = 0 then setR s a (fieldM s (rootM s b) c) else s) := by unfold doM; rw [hc]; split <;> simp [actM]
          have hfl : Hid (∀ W, SpW W G H s ps fs ov R qv → Calls Try.prog 44 #[.pointer (some ⟨H, 0, none⟩), .agg #[.int .i64 2, .int .i64 a, .int .i64 b, .int .i64 c]] W fun e w' => e = .returned (.int .i64 (codeM s ⟨2, a, b, c⟩)) ∧ (∃ qv', SpW w' G H (doM s ⟨2, a, b, c⟩) ps fs ov R qv') ∧ Keep G W w') := fun W hW => by
            rw [hc, hfin0]
            exact (fget_calls W G H s ps fs ov R qv c a b hW hI.out hl ha hb h6.out).mono fun e w' q => ⟨q.1, ⟨qv, q.2.1⟩, q.2.2⟩
          have hgn : Hid ((ansM s ⟨2, a, b, c⟩).gone = []) := goneOf (by show (2 : Int) ≠ 8; omega)
          clear hok hc hfin0
          generalize hcd : codeM s ⟨2, a, b, c⟩ = cd at hfl
          have hcdH : Hid (codeM s ⟨2, a, b, c⟩ = cd) := hcd
          clear hcd
          go_wp2_with (first
            | (go_at_call 42; refine (show Calls _ _ _ _ _ from hop.out).mono ?_; rintro e W1 ⟨rfl, hB1⟩; have D1 : Hid _ := hD0.out.below hB1; have x0 : W1.cell? ⟨bx, 0, none⟩ = some (.int .i64 2) := cell_of D1.out.b0 rfl; have x1 : W1.cell? ⟨bx, 1, none⟩ = some (.int .i64 a) := cell_of D1.out.b0 rfl; have x2 : W1.cell? ⟨bx, 2, none⟩ = some (.int .i64 b) := cell_of D1.out.b0 rfl; have x3 : W1.cell? ⟨bx, 3, none⟩ = some (.int .i64 c) := cell_of D1.out.b0 rfl; have xo : W1.cell? ⟨bx + 2, 0, none⟩ = some (.int .i64 0) := cell_of D1.out.b2 rfl; have xf : W1.frozen? ⟨bx + 2, 0, none⟩ = false := free_of D1.out.b2; clear hB1 hop y0 y1 y2 y3)
            | (go_at_call 44; refine (show Calls _ _ _ _ _ from hfl.out W1 D1.out.sp).mono ?_; rintro e W2 ⟨rfl, ⟨qv2, hS2⟩, hK2⟩; have D2 : Hid _ := D1.out.keep hS2 hK2; clear hS2 hK2; have zo : W2.cell? ⟨bx + 2, 0, none⟩ = some (.int .i64 0) := cell_of D2.out.b2 rfl; have zf : W2.frozen? ⟨bx + 2, 0, none⟩ = false := free_of D2.out.b2))
          go_meet
          exact DoR.mk' (D2.out.set 0 (.int .i64 cd)) rfl hcdH.out hgn.out (out_nil _ _)
        case inr.inl =>
          have hop : Hid (Calls Try.prog 42 #[.pointer (some ⟨H, 0, none⟩), .agg #[.int .i64 3, .int .i64 a, .int .i64 b, .int .i64 c]] W0 fun e w' => e = .returned (.bool true) ∧ Below W0.heap.size W0 w') := by
            have := opOk_calls W0 G H s ps fs ov R qv ⟨3, a, b, c⟩ hD0.out.sp
            rw [hok] at this
            exact this
          have y0 : W0.cell? ⟨bx, 0, none⟩ = some (.int .i64 3) := cell_of hD0.out.b0 rfl; have y1 : W0.cell? ⟨bx, 1, none⟩ = some (.int .i64 a) := cell_of hD0.out.b0 rfl; have y2 : W0.cell? ⟨bx, 2, none⟩ = some (.int .i64 b) := cell_of hD0.out.b0 rfl; have y3 : W0.cell? ⟨bx, 3, none⟩ = some (.int .i64 c) := cell_of hD0.out.b0 rfl
          have hc := code_3 hok
          have hfin0 : doM s ⟨3, a, b, c⟩ = (if fcodeM s (rootM s a) c = 0 then putM s (rootM s a) c (rootM s b) else s) := by unfold doM; rw [hc]; split <;> simp [actM]
          have hfl : Hid (∀ W, SpW W G H s ps fs ov R qv → Calls Try.prog 44 #[.pointer (some ⟨H, 0, none⟩), .agg #[.int .i64 3, .int .i64 a, .int .i64 b, .int .i64 c]] W fun e w' => e = .returned (.int .i64 (codeM s ⟨3, a, b, c⟩)) ∧ (∃ qv', SpW w' G H (doM s ⟨3, a, b, c⟩) ps fs ov R qv') ∧ Keep G W w') := fun W hW => by
            rw [hc, hfin0]
            exact (fset_calls W G H s ps fs ov R qv c a b hW hI.out hl ha hb h6.out hmd.out).mono fun e w' q => ⟨q.1, q.2.1, q.2.2⟩
          have hgn : Hid ((ansM s ⟨3, a, b, c⟩).gone = []) := goneOf (by show (3 : Int) ≠ 8; omega)
          clear hok hc hfin0
          generalize hcd : codeM s ⟨3, a, b, c⟩ = cd at hfl
          have hcdH : Hid (codeM s ⟨3, a, b, c⟩ = cd) := hcd
          clear hcd
          go_wp2_with (first
            | (go_at_call 42; refine (show Calls _ _ _ _ _ from hop.out).mono ?_; rintro e W1 ⟨rfl, hB1⟩; have D1 : Hid _ := hD0.out.below hB1; have x0 : W1.cell? ⟨bx, 0, none⟩ = some (.int .i64 3) := cell_of D1.out.b0 rfl; have x1 : W1.cell? ⟨bx, 1, none⟩ = some (.int .i64 a) := cell_of D1.out.b0 rfl; have x2 : W1.cell? ⟨bx, 2, none⟩ = some (.int .i64 b) := cell_of D1.out.b0 rfl; have x3 : W1.cell? ⟨bx, 3, none⟩ = some (.int .i64 c) := cell_of D1.out.b0 rfl; have xo : W1.cell? ⟨bx + 2, 0, none⟩ = some (.int .i64 0) := cell_of D1.out.b2 rfl; have xf : W1.frozen? ⟨bx + 2, 0, none⟩ = false := free_of D1.out.b2; clear hB1 hop y0 y1 y2 y3)
            | (go_at_call 44; refine (show Calls _ _ _ _ _ from hfl.out W1 D1.out.sp).mono ?_; rintro e W2 ⟨rfl, ⟨qv2, hS2⟩, hK2⟩; have D2 : Hid _ := D1.out.keep hS2 hK2; clear hS2 hK2; have zo : W2.cell? ⟨bx + 2, 0, none⟩ = some (.int .i64 0) := cell_of D2.out.b2 rfl; have zf : W2.frozen? ⟨bx + 2, 0, none⟩ = false := free_of D2.out.b2))
          go_meet
          exact DoR.mk' (D2.out.set 0 (.int .i64 cd)) rfl hcdH.out hgn.out (out_nil _ _)
        case inr.inr =>
          have hop : Hid (Calls Try.prog 42 #[.pointer (some ⟨H, 0, none⟩), .agg #[.int .i64 4, .int .i64 a, .int .i64 b, .int .i64 c]] W0 fun e w' => e = .returned (.bool true) ∧ Below W0.heap.size W0 w') := by
            have := opOk_calls W0 G H s ps fs ov R qv ⟨4, a, b, c⟩ hD0.out.sp
            rw [hok] at this
            exact this
          have y0 : W0.cell? ⟨bx, 0, none⟩ = some (.int .i64 4) := cell_of hD0.out.b0 rfl; have y1 : W0.cell? ⟨bx, 1, none⟩ = some (.int .i64 a) := cell_of hD0.out.b0 rfl; have y2 : W0.cell? ⟨bx, 2, none⟩ = some (.int .i64 b) := cell_of hD0.out.b0 rfl; have y3 : W0.cell? ⟨bx, 3, none⟩ = some (.int .i64 c) := cell_of hD0.out.b0 rfl
          have hc := code_plain hok (by show (4 : Int) ≠ 2; omega) (by show (4 : Int) ≠ 3; omega) (by show (4 : Int) < 6; omega)
          have hfin : Hid (codeM s ⟨4, a, b, c⟩ = 0 ∧ doM s ⟨4, a, b, c⟩ = setR s a (rootM s b) ∧ (ansM s ⟨4, a, b, c⟩).gone = []) := ⟨hc, by simp [doM, hc, actM], goneOf (by show (4 : Int) ≠ 8; omega)⟩
          have hr8 := hI.out.rl
          have ha8 : (a : Int) < 8 := by omega
          have hb8 : (b : Int) < 8 := by omega
          have hrb : rootM s b = s.roots[b]'(by omega) := rootM_nat hr8 hb
          generalize hrz : rootM s b = z at hrb hfin
          clear hrz
          have hrbH : Hid _ := hrb
          clear hok hc
          go_wp2_with (go_at_call 42; refine (show Calls _ _ _ _ _ from hop.out).mono ?_; rintro e W1 ⟨rfl, hB1⟩; have D1 : Hid _ := hD0.out.below hB1; have x0 : W1.cell? ⟨bx, 0, none⟩ = some (.int .i64 4) := cell_of D1.out.b0 rfl; have x1 : W1.cell? ⟨bx, 1, none⟩ = some (.int .i64 a) := cell_of D1.out.b0 rfl; have x2 : W1.cell? ⟨bx, 2, none⟩ = some (.int .i64 b) := cell_of D1.out.b0 rfl; have x3 : W1.cell? ⟨bx, 3, none⟩ = some (.int .i64 c) := cell_of D1.out.b0 rfl; clear hB1 hop y0 y1 y2 y3)
          have k2 : W1.cell? ⟨H, 2, none⟩ = some (.slice (some ⟨R, 0, none⟩) 8 8) := cell_of D1.out.sp.blk rfl
          have kz : ∃ u, W1.cell? ⟨R, a, none⟩ = some u := ⟨_, cell_of D1.out.sp.rt (intsV_cell (zs := s.roots) (j := a) (by omega))⟩
          obtain ⟨u, kz⟩ := kz
          have kfz : W1.frozen? ⟨R, a, none⟩ = false := free_of D1.out.sp.rt
          have kb : W1.cell? ⟨R, b, none⟩ = some (.int .i64 z) := by rw [hrbH.out]; exact cell_of D1.out.sp.rt (intsV_cell (zs := s.roots) (j := b) (by omega))
          clear hrb
          go_still_tail 15, (by kernel_rfl)
          go_wp2_with fail
          go_meet
          have hr := D1.out.sp.setRoot a (z)
          exact DoR.mk' ((D1.out.keep hr.1 hr.2).below (Below.drew (Below.refl _ _))) hfin.out.2.1 hfin.out.1 hfin.out.2.2 (out_nil _ _)
      case inr.inr.inl =>
        have hop : Hid (Calls Try.prog 42 #[.pointer (some ⟨H, 0, none⟩), .agg #[.int .i64 5, .int .i64 a, .int .i64 b, .int .i64 c]] W0 fun e w' => e = .returned (.bool true) ∧ Below W0.heap.size W0 w') := by
          have := opOk_calls W0 G H s ps fs ov R qv ⟨5, a, b, c⟩ hD0.out.sp
          rw [hok] at this
          exact this
        have y0 : W0.cell? ⟨bx, 0, none⟩ = some (.int .i64 5) := cell_of hD0.out.b0 rfl; have y1 : W0.cell? ⟨bx, 1, none⟩ = some (.int .i64 a) := cell_of hD0.out.b0 rfl; have y2 : W0.cell? ⟨bx, 2, none⟩ = some (.int .i64 b) := cell_of hD0.out.b0 rfl; have y3 : W0.cell? ⟨bx, 3, none⟩ = some (.int .i64 c) := cell_of hD0.out.b0 rfl
        have hc := code_plain hok (by show (5 : Int) ≠ 2; omega) (by show (5 : Int) ≠ 3; omega) (by show (5 : Int) < 6; omega)
        have hfin : Hid (codeM s ⟨5, a, b, c⟩ = 0 ∧ doM s ⟨5, a, b, c⟩ = setR s a 0 ∧ (ansM s ⟨5, a, b, c⟩).gone = []) := ⟨hc, by simp [doM, hc, actM], goneOf (by show (5 : Int) ≠ 8; omega)⟩
        have hr8 := hI.out.rl
        have ha8 : (a : Int) < 8 := by omega
        clear hok hc
        go_wp2_with (go_at_call 42; refine (show Calls _ _ _ _ _ from hop.out).mono ?_; rintro e W1 ⟨rfl, hB1⟩; have D1 : Hid _ := hD0.out.below hB1; have x0 : W1.cell? ⟨bx, 0, none⟩ = some (.int .i64 5) := cell_of D1.out.b0 rfl; have x1 : W1.cell? ⟨bx, 1, none⟩ = some (.int .i64 a) := cell_of D1.out.b0 rfl; have x2 : W1.cell? ⟨bx, 2, none⟩ = some (.int .i64 b) := cell_of D1.out.b0 rfl; have x3 : W1.cell? ⟨bx, 3, none⟩ = some (.int .i64 c) := cell_of D1.out.b0 rfl; clear hB1 hop y0 y1 y2 y3)
        have k2 : W1.cell? ⟨H, 2, none⟩ = some (.slice (some ⟨R, 0, none⟩) 8 8) := cell_of D1.out.sp.blk rfl
        have kz : ∃ u, W1.cell? ⟨R, a, none⟩ = some u := ⟨_, cell_of D1.out.sp.rt (intsV_cell (zs := s.roots) (j := a) (by omega))⟩
        obtain ⟨u, kz⟩ := kz
        have kfz : W1.frozen? ⟨R, a, none⟩ = false := free_of D1.out.sp.rt
        go_still_tail 7, (by kernel_rfl)
        go_wp2_with fail
        go_meet
        have hr := D1.out.sp.setRoot a (0)
        exact DoR.mk' ((D1.out.keep hr.1 hr.2).below (Below.drew (Below.refl _ _))) hfin.out.2.1 hfin.out.1 hfin.out.2.2 (out_nil _ _)
      case inr.inr.inr.inl =>
        have hop : Hid (Calls Try.prog 42 #[.pointer (some ⟨H, 0, none⟩), .agg #[.int .i64 7, .int .i64 a, .int .i64 b, .int .i64 c]] W0 fun e w' => e = .returned (.bool true) ∧ Below W0.heap.size W0 w') := by
          have := opOk_calls W0 G H s ps fs ov R qv ⟨7, a, b, c⟩ hD0.out.sp
          rw [hok] at this
          exact this
        have y0 : W0.cell? ⟨bx, 0, none⟩ = some (.int .i64 7) := cell_of hD0.out.b0 rfl; have y1 : W0.cell? ⟨bx, 1, none⟩ = some (.int .i64 a) := cell_of hD0.out.b0 rfl; have y2 : W0.cell? ⟨bx, 2, none⟩ = some (.int .i64 b) := cell_of hD0.out.b0 rfl; have y3 : W0.cell? ⟨bx, 3, none⟩ = some (.int .i64 c) := cell_of hD0.out.b0 rfl
        cases hcy : s.cyc with
        | false =>
          have hc : codeM s ⟨7, a, b, c⟩ = 4 := by unfold codeM; rw [if_neg (by rw [hok]; simp), if_neg (by show ¬ (7 : Int) = 2; omega), if_neg (by show ¬ (7 : Int) = 3; omega), if_pos ⟨by show (6 : Int) ≤ 7; omega, by rw [hcy]; rfl⟩]
          have hfin : Hid (codeM s ⟨7, a, b, c⟩ = 4 ∧ doM s ⟨7, a, b, c⟩ = s ∧ (ansM s ⟨7, a, b, c⟩).gone = []) := ⟨hc, do_not (by omega), gone_not0 (by omega)⟩
          have hcyH : Hid (s.cyc = false) := hcy
          clear hok hc hcy
          have k3 : W0.cell? ⟨H, 3, none⟩ = some (.bool false) := by rw [← hcyH.out]; exact cell_of hD0.out.sp.blk rfl
          go_wp2_with (go_at_call 42; refine (show Calls _ _ _ _ _ from hop.out).mono ?_; rintro e W1 ⟨rfl, hB1⟩; have D1 : Hid _ := hD0.out.below hB1; have x0 : W1.cell? ⟨bx, 0, none⟩ = some (.int .i64 7) := cell_of D1.out.b0 rfl; have x1 : W1.cell? ⟨bx, 1, none⟩ = some (.int .i64 a) := cell_of D1.out.b0 rfl; have x2 : W1.cell? ⟨bx, 2, none⟩ = some (.int .i64 b) := cell_of D1.out.b0 rfl; have x3 : W1.cell? ⟨bx, 3, none⟩ = some (.int .i64 c) := cell_of D1.out.b0 rfl; have k31 : W1.cell? ⟨H, 3, none⟩ = some (.bool false) := (hB1.cell (p := ⟨H, 3, none⟩) (lt_of hD0.out.sp.blk)).trans k3; clear hB1 hop y0 y1 y2 y3 k3)
          go_quiet (fail)
          have z0 : (W1.drewN nq).cell? ⟨bx, 0, none⟩ = some (.int .i64 7) := x0
          have z1 : (W1.drewN nq).cell? ⟨bx, 1, none⟩ = some (.int .i64 a) := x1
          have D2 : Hid _ := D1.out.below (drewN_lt W1 nq)
          have zo : (W1.drewN nq).cell? ⟨bx + 2, 0, none⟩ = some (.int .i64 0) := cell_of D2.out.b2 rfl
          have zf : (W1.drewN nq).frozen? ⟨bx + 2, 0, none⟩ = false := free_of D2.out.b2
          clear x0 x1 x2 x3 k31 D1
          generalize W1.drewN nq = W2 at *
          go_wp2_with fail
          go_meet
          exact DoR.mk' (D2.out.set 0 (.int .i64 4)) hfin.out.2.1 hfin.out.1 hfin.out.2.2 (out_nil _ _)
        | true =>
          have hc : codeM s ⟨7, a, b, c⟩ = 0 := by unfold codeM; rw [if_neg (by rw [hok]; simp), if_neg (by show ¬ (7 : Int) = 2; omega), if_neg (by show ¬ (7 : Int) = 3; omega), if_neg (by rintro ⟨_, q⟩; rw [hcy] at q; exact absurd q (by simp))]
          have hfin : Hid (codeM s ⟨7, a, b, c⟩ = 0 ∧ doM s ⟨7, a, b, c⟩ = (StM.steps a s) ∧ (ansM s ⟨7, a, b, c⟩).gone = []) := ⟨hc, by simp [doM, hc, actM], by exact goneOf (by show (7 : Int) ≠ 8; omega)⟩
          have hcyH : Hid (s.cyc = true) := hcy
          clear hok hc hcy
          have k3 : W0.cell? ⟨H, 3, none⟩ = some (.bool true) := by rw [← hcyH.out]; exact cell_of hD0.out.sp.blk rfl
          go_wp2_with (go_at_call 42; refine (show Calls _ _ _ _ _ from hop.out).mono ?_; rintro e W1 ⟨rfl, hB1⟩; have D1 : Hid _ := hD0.out.below hB1; have x0 : W1.cell? ⟨bx, 0, none⟩ = some (.int .i64 7) := cell_of D1.out.b0 rfl; have x1 : W1.cell? ⟨bx, 1, none⟩ = some (.int .i64 a) := cell_of D1.out.b0 rfl; have x2 : W1.cell? ⟨bx, 2, none⟩ = some (.int .i64 b) := cell_of D1.out.b0 rfl; have x3 : W1.cell? ⟨bx, 3, none⟩ = some (.int .i64 c) := cell_of D1.out.b0 rfl; have k31 : W1.cell? ⟨H, 3, none⟩ = some (.bool true) := (hB1.cell (p := ⟨H, 3, none⟩) (lt_of hD0.out.sp.blk)).trans k3; clear hB1 hop y0 y1 y2 y3 k3)
          go_quiet (fail)
          have z0 : (W1.drewN nq).cell? ⟨bx, 0, none⟩ = some (.int .i64 7) := x0
          have z1 : (W1.drewN nq).cell? ⟨bx, 1, none⟩ = some (.int .i64 a) := x1
          have D2 : Hid _ := D1.out.below (drewN_lt W1 nq)
          have zo : (W1.drewN nq).cell? ⟨bx + 2, 0, none⟩ = some (.int .i64 0) := cell_of D2.out.b2 rfl
          have zf : (W1.drewN nq).frozen? ⟨bx + 2, 0, none⟩ = false := free_of D2.out.b2
          clear x0 x1 x2 x3 k31 D1
          generalize W1.drewN nq = W2 at *
          clear zo zf
          go_wp2_with (go_at_call 46; refine (step_calls W2 G H s ps fs ov R qv a D2.out.sp hI.out hl h6.out (by omega)).mono ?_; rintro e W3 ⟨rfl, ⟨qv3, hS3⟩, hK3⟩; have D3 : Hid _ := D2.out.keep hS3 hK3)
          go_meet
          exact DoR.mk' D3.out hfin.out.2.1 hfin.out.1 hfin.out.2.2 (out_nil _ _)
      case inr.inr.inr.inr.inl =>
        have hop : Hid (Calls Try.prog 42 #[.pointer (some ⟨H, 0, none⟩), .agg #[.int .i64 6, .int .i64 a, .int .i64 b, .int .i64 c]] W0 fun e w' => e = .returned (.bool true) ∧ Below W0.heap.size W0 w') := by
          have := opOk_calls W0 G H s ps fs ov R qv ⟨6, a, b, c⟩ hD0.out.sp
          rw [hok] at this
          exact this
        have y0 : W0.cell? ⟨bx, 0, none⟩ = some (.int .i64 6) := cell_of hD0.out.b0 rfl; have y1 : W0.cell? ⟨bx, 1, none⟩ = some (.int .i64 a) := cell_of hD0.out.b0 rfl; have y2 : W0.cell? ⟨bx, 2, none⟩ = some (.int .i64 b) := cell_of hD0.out.b0 rfl; have y3 : W0.cell? ⟨bx, 3, none⟩ = some (.int .i64 c) := cell_of hD0.out.b0 rfl
        cases hcy : s.cyc with
        | true =>
          have hc : codeM s ⟨6, a, b, c⟩ = 4 := by unfold codeM; rw [if_neg (by rw [hok]; simp), if_neg (by show ¬ (6 : Int) = 2; omega), if_neg (by show ¬ (6 : Int) = 3; omega), if_pos ⟨by show (6 : Int) ≤ 6; omega, by rw [hcy]; rfl⟩]
          have hfin : Hid (codeM s ⟨6, a, b, c⟩ = 4 ∧ doM s ⟨6, a, b, c⟩ = s ∧ (ansM s ⟨6, a, b, c⟩).gone = []) := ⟨hc, do_not (by omega), gone_not0 (by omega)⟩
          have hcyH : Hid (s.cyc = true) := hcy
          clear hok hc hcy
          have k3 : W0.cell? ⟨H, 3, none⟩ = some (.bool true) := by rw [← hcyH.out]; exact cell_of hD0.out.sp.blk rfl
          go_wp2_with (go_at_call 42; refine (show Calls _ _ _ _ _ from hop.out).mono ?_; rintro e W1 ⟨rfl, hB1⟩; have D1 : Hid _ := hD0.out.below hB1; have x0 : W1.cell? ⟨bx, 0, none⟩ = some (.int .i64 6) := cell_of D1.out.b0 rfl; have x1 : W1.cell? ⟨bx, 1, none⟩ = some (.int .i64 a) := cell_of D1.out.b0 rfl; have x2 : W1.cell? ⟨bx, 2, none⟩ = some (.int .i64 b) := cell_of D1.out.b0 rfl; have x3 : W1.cell? ⟨bx, 3, none⟩ = some (.int .i64 c) := cell_of D1.out.b0 rfl; have k31 : W1.cell? ⟨H, 3, none⟩ = some (.bool true) := (hB1.cell (p := ⟨H, 3, none⟩) (lt_of hD0.out.sp.blk)).trans k3; clear hB1 hop y0 y1 y2 y3 k3)
          go_quiet (fail)
          have z0 : (W1.drewN nq).cell? ⟨bx, 0, none⟩ = some (.int .i64 6) := x0
          have z1 : (W1.drewN nq).cell? ⟨bx, 1, none⟩ = some (.int .i64 a) := x1
          have D2 : Hid _ := D1.out.below (drewN_lt W1 nq)
          have zo : (W1.drewN nq).cell? ⟨bx + 2, 0, none⟩ = some (.int .i64 0) := cell_of D2.out.b2 rfl
          have zf : (W1.drewN nq).frozen? ⟨bx + 2, 0, none⟩ = false := free_of D2.out.b2
          clear x0 x1 x2 x3 k31 D1
          generalize W1.drewN nq = W2 at *
          go_wp2_with fail
          go_meet
          exact DoR.mk' (D2.out.set 0 (.int .i64 4)) hfin.out.2.1 hfin.out.1 hfin.out.2.2 (out_nil _ _)
        | false =>
          have hc : codeM s ⟨6, a, b, c⟩ = 0 := by unfold codeM; rw [if_neg (by rw [hok]; simp), if_neg (by show ¬ (6 : Int) = 2; omega), if_neg (by show ¬ (6 : Int) = 3; omega), if_neg (by rintro ⟨_, q⟩; rw [hcy] at q; exact absurd q (by simp))]
          have hfin : Hid (codeM s ⟨6, a, b, c⟩ = 0 ∧ doM s ⟨6, a, b, c⟩ = s.begin ∧ (ansM s ⟨6, a, b, c⟩).gone = []) := ⟨hc, by simp [doM, hc, actM], by exact goneOf (by show (6 : Int) ≠ 8; omega)⟩
          have hcyH : Hid (s.cyc = false) := hcy
          clear hok hc hcy
          have k3 : W0.cell? ⟨H, 3, none⟩ = some (.bool false) := by rw [← hcyH.out]; exact cell_of hD0.out.sp.blk rfl
          go_wp2_with (go_at_call 42; refine (show Calls _ _ _ _ _ from hop.out).mono ?_; rintro e W1 ⟨rfl, hB1⟩; have D1 : Hid _ := hD0.out.below hB1; have x0 : W1.cell? ⟨bx, 0, none⟩ = some (.int .i64 6) := cell_of D1.out.b0 rfl; have x1 : W1.cell? ⟨bx, 1, none⟩ = some (.int .i64 a) := cell_of D1.out.b0 rfl; have x2 : W1.cell? ⟨bx, 2, none⟩ = some (.int .i64 b) := cell_of D1.out.b0 rfl; have x3 : W1.cell? ⟨bx, 3, none⟩ = some (.int .i64 c) := cell_of D1.out.b0 rfl; have k31 : W1.cell? ⟨H, 3, none⟩ = some (.bool false) := (hB1.cell (p := ⟨H, 3, none⟩) (lt_of hD0.out.sp.blk)).trans k3; clear hB1 hop y0 y1 y2 y3 k3)
          go_quiet (fail)
          have z0 : (W1.drewN nq).cell? ⟨bx, 0, none⟩ = some (.int .i64 6) := x0
          have z1 : (W1.drewN nq).cell? ⟨bx, 1, none⟩ = some (.int .i64 a) := x1
          have D2 : Hid _ := D1.out.below (drewN_lt W1 nq)
          have zo : (W1.drewN nq).cell? ⟨bx + 2, 0, none⟩ = some (.int .i64 0) := cell_of D2.out.b2 rfl
          have zf : (W1.drewN nq).frozen? ⟨bx + 2, 0, none⟩ = false := free_of D2.out.b2
          clear x0 x1 x2 x3 k31 D1
          generalize W1.drewN nq = W2 at *
          clear zo zf
          go_wp2_with (go_at_call 45; refine (begin_calls W2 G H s ps fs ov R qv D2.out.sp hI.out hcyH.out hl).mono ?_; rintro e W3 ⟨rfl, ⟨qv3, hS3⟩, hK3⟩; have D3 : Hid _ := D2.out.keep hS3 hK3)
          go_meet
          exact DoR.mk' D3.out hfin.out.2.1 hfin.out.1 hfin.out.2.2 (out_nil _ _)
      case inr.inr.inr.inr.inr =>
        have hop : Hid (Calls Try.prog 42 #[.pointer (some ⟨H, 0, none⟩), .agg #[.int .i64 8, .int .i64 a, .int .i64 b, .int .i64 c]] W0 fun e w' => e = .returned (.bool true) ∧ Below W0.heap.size W0 w') := by
          have := opOk_calls W0 G H s ps fs ov R qv ⟨8, a, b, c⟩ hD0.out.sp
          rw [hok] at this
          exact this
        have y0 : W0.cell? ⟨bx, 0, none⟩ = some (.int .i64 8) := cell_of hD0.out.b0 rfl; have y1 : W0.cell? ⟨bx, 1, none⟩ = some (.int .i64 a) := cell_of hD0.out.b0 rfl; have y2 : W0.cell? ⟨bx, 2, none⟩ = some (.int .i64 b) := cell_of hD0.out.b0 rfl; have y3 : W0.cell? ⟨bx, 3, none⟩ = some (.int .i64 c) := cell_of hD0.out.b0 rfl
        cases hcy : s.cyc with
        | false =>
          have hc : codeM s ⟨8, a, b, c⟩ = 4 := by unfold codeM; rw [if_neg (by rw [hok]; simp), if_neg (by show ¬ (8 : Int) = 2; omega), if_neg (by show ¬ (8 : Int) = 3; omega), if_pos ⟨by show (6 : Int) ≤ 8; omega, by rw [hcy]; rfl⟩]
          have hfin : Hid (codeM s ⟨8, a, b, c⟩ = 4 ∧ doM s ⟨8, a, b, c⟩ = s ∧ (ansM s ⟨8, a, b, c⟩).gone = []) := ⟨hc, do_not (by omega), gone_not0 (by omega)⟩
          have hcyH : Hid (s.cyc = false) := hcy
          clear hok hc hcy
          have k3 : W0.cell? ⟨H, 3, none⟩ = some (.bool false) := by rw [← hcyH.out]; exact cell_of hD0.out.sp.blk rfl
          go_wp2_with (go_at_call 42; refine (show Calls _ _ _ _ _ from hop.out).mono ?_; rintro e W1 ⟨rfl, hB1⟩; have D1 : Hid _ := hD0.out.below hB1; have x0 : W1.cell? ⟨bx, 0, none⟩ = some (.int .i64 8) := cell_of D1.out.b0 rfl; have x1 : W1.cell? ⟨bx, 1, none⟩ = some (.int .i64 a) := cell_of D1.out.b0 rfl; have x2 : W1.cell? ⟨bx, 2, none⟩ = some (.int .i64 b) := cell_of D1.out.b0 rfl; have x3 : W1.cell? ⟨bx, 3, none⟩ = some (.int .i64 c) := cell_of D1.out.b0 rfl; have k31 : W1.cell? ⟨H, 3, none⟩ = some (.bool false) := (hB1.cell (p := ⟨H, 3, none⟩) (lt_of hD0.out.sp.blk)).trans k3; clear hB1 hop y0 y1 y2 y3 k3)
          go_quiet (fail)
          have z0 : (W1.drewN nq).cell? ⟨bx, 0, none⟩ = some (.int .i64 8) := x0
          have z1 : (W1.drewN nq).cell? ⟨bx, 1, none⟩ = some (.int .i64 a) := x1
          have D2 : Hid _ := D1.out.below (drewN_lt W1 nq)
          have zo : (W1.drewN nq).cell? ⟨bx + 2, 0, none⟩ = some (.int .i64 0) := cell_of D2.out.b2 rfl
          have zf : (W1.drewN nq).frozen? ⟨bx + 2, 0, none⟩ = false := free_of D2.out.b2
          clear x0 x1 x2 x3 k31 D1
          generalize W1.drewN nq = W2 at *
          go_wp2_with fail
          go_meet
          exact DoR.mk' (D2.out.set 0 (.int .i64 4)) hfin.out.2.1 hfin.out.1 hfin.out.2.2 (out_nil _ _)
        | true =>
          have hc : codeM s ⟨8, a, b, c⟩ = 0 := by unfold codeM; rw [if_neg (by rw [hok]; simp), if_neg (by show ¬ (8 : Int) = 2; omega), if_neg (by show ¬ (8 : Int) = 3; omega), if_neg (by rintro ⟨_, q⟩; rw [hcy] at q; exact absurd q (by simp))]
          have hfin : Hid (codeM s ⟨8, a, b, c⟩ = 0 ∧ doM s ⟨8, a, b, c⟩ = s.fin ∧ (ansM s ⟨8, a, b, c⟩).gone = goneM s.drained.obs) := ⟨hc, by simp [doM, hc, actM], by simp [ansM, hc]⟩
          have hcyH : Hid (s.cyc = true) := hcy
          clear hok hc hcy
          have k3 : W0.cell? ⟨H, 3, none⟩ = some (.bool true) := by rw [← hcyH.out]; exact cell_of hD0.out.sp.blk rfl
          go_wp2_with (go_at_call 42; refine (show Calls _ _ _ _ _ from hop.out).mono ?_; rintro e W1 ⟨rfl, hB1⟩; have D1 : Hid _ := hD0.out.below hB1; have x0 : W1.cell? ⟨bx, 0, none⟩ = some (.int .i64 8) := cell_of D1.out.b0 rfl; have x1 : W1.cell? ⟨bx, 1, none⟩ = some (.int .i64 a) := cell_of D1.out.b0 rfl; have x2 : W1.cell? ⟨bx, 2, none⟩ = some (.int .i64 b) := cell_of D1.out.b0 rfl; have x3 : W1.cell? ⟨bx, 3, none⟩ = some (.int .i64 c) := cell_of D1.out.b0 rfl; have k31 : W1.cell? ⟨H, 3, none⟩ = some (.bool true) := (hB1.cell (p := ⟨H, 3, none⟩) (lt_of hD0.out.sp.blk)).trans k3; clear hB1 hop y0 y1 y2 y3 k3)
          go_quiet (fail)
          have z0 : (W1.drewN nq).cell? ⟨bx, 0, none⟩ = some (.int .i64 8) := x0
          have z1 : (W1.drewN nq).cell? ⟨bx, 1, none⟩ = some (.int .i64 a) := x1
          have D2 : Hid _ := D1.out.below (drewN_lt W1 nq)
          have zo : (W1.drewN nq).cell? ⟨bx + 2, 0, none⟩ = some (.int .i64 0) := cell_of D2.out.b2 rfl
          have zf : (W1.drewN nq).frozen? ⟨bx + 2, 0, none⟩ = false := free_of D2.out.b2
          clear x0 x1 x2 x3 k31 D1
          generalize W1.drewN nq = W2 at *
          clear zo zf
          go_wp2_with (go_at_call 47; refine (end_calls W2 G H s ps fs ov R qv D2.out.sp hI.out hl h6.out).mono ?_; rintro e W3 ⟨gv, rfl, ho3, ⟨ov3, qv3, hS3⟩, hK3⟩; have D3 : Hid _ := D2.out.gone hS3 hK3; have ho3H : Hid _ := ho3; have hW2 : Hid (w.heap.size ≤ W2.heap.size) := D2.out.kp.size; have vo : W3.cell? ⟨bx + 2, 3, none⟩ = some (.slice none 0 0) := cell_of D3.out.b2 rfl; have vf : W3.frozen? ⟨bx + 2, 3, none⟩ = false := free_of D3.out.b2; clear hS3 hK3 ho3; obtain ⟨ga, gc, rfl⟩ := own_slice ho3H.out)
          go_meet
          refine DoR.mk' (D3.out.set 3 _) hfin.out.2.1 hfin.out.1 hfin.out.2.2 ?_
          refine own_mono (own_kept ho3H.out fun k q => ?_) hW2.out
          obtain ⟨cur, bq⟩ := own_tag ho3H.out q
          exact set_other _ (tag_ne bq D3.out.b2 (by decide))
  case rest =>
    obtain ⟨G, ps, fs, ov, qv, gv, hD, ho⟩ := hcut.out
    have hDH : Hid _ := hD
    have hoH : Hid _ := ho
    clear hcut hD0
    obtain ⟨ga, gc, rfl⟩ := own_slice ho
    obtain ⟨qa, qc, rfl⟩ := own_slice hD.sp.ro
    have k4 : wc.cell? ⟨H, 4, none⟩ = some (.slice qa (doM s ⟨kind, a, b, c⟩).row.length qc) := cell_of hD.sp.blk rfl
    have xo : wc.cell? ⟨bx + 2, 2, none⟩ = some (.int .i64 0) := cell_of hD.b2 rfl
    have xf : wc.frozen? ⟨bx + 2, 2, none⟩ = false := free_of hD.b2
    have han : Hid ((ansM s ⟨kind, a, b, c⟩).code = codeM s ⟨kind, a, b, c⟩ ∧ (ansM s ⟨kind, a, b, c⟩).n = (if codeM s ⟨kind, a, b, c⟩ = 0 ∧ kind < 6 then rootM (doM s ⟨kind, a, b, c⟩) a else 0) ∧ (ansM s ⟨kind, a, b, c⟩).grey = (doM s ⟨kind, a, b, c⟩).row.length) := ⟨rfl, rfl, rfl⟩
    have hra : Hid (codeM s ⟨kind, a, b, c⟩ = 0 → kind < 6 → isR a = true) := fun q1 q2 => by
      have hok := codeM_ok q1
      rcases okM_kinds hok with ⟨_, ⟨m, rfl, hm⟩, _⟩ | ⟨_, ⟨m, rfl, hm⟩, _⟩ | ⟨_, ⟨m, rfl, hm⟩⟩ | ⟨rfl, _⟩ | rfl | rfl
      · exact isR_iff.2 ⟨by omega, by omega⟩
      · exact isR_iff.2 ⟨by omega, by omega⟩
      · exact isR_iff.2 ⟨by omega, by omega⟩
      · omega
      · omega
      · omega
    have hrl : Hid ((doM s ⟨kind, a, b, c⟩).roots.length = 8) := (hgH.out.do ⟨kind, a, b, c⟩).inv.rl
    have hrowl : ((doM s ⟨kind, a, b, c⟩).row.length : Int) ≤ 400 := by
      have h1 := (hgH.out.do ⟨kind, a, b, c⟩).inv.rowlen
      have h2 := (hgH.out.do ⟨kind, a, b, c⟩).len
      omega
    generalize hane : (ansM s ⟨kind, a, b, c⟩) = an at *
    have hanE : Hid (ansM s ⟨kind, a, b, c⟩ = an) := hane
    generalize hTe : (doM s ⟨kind, a, b, c⟩) = T at *
    have hTE : Hid (doM s ⟨kind, a, b, c⟩ = T) := hTe
    clear hane hTe
    generalize (codeM s ⟨kind, a, b, c⟩) = cd at *
    clear hI h6 hmd hgH hl hD ho
    go_upto_region 20 with fail
    have D2 : Hid (DoS w (wc.setCell ⟨bx + 2, 2, none⟩ (.int .i64 T.row.length)) F G H T ps fs ov R (.slice qa T.row.length qc) bx ⟨kind, a, b, c⟩ #[.int .i64 cd, .int .i64 0, .int .i64 T.row.length, .slice ga an.gone.length gc] (.slice ga an.gone.length gc)) := hDH.out.set 2 _
    have ho2 : Hid (OutAt w.heap.size (wc.setCell ⟨bx + 2, 2, none⟩ (.int .i64 T.row.length)) (.slice ga an.gone.length gc) an.gone) := own_kept hoH.out fun k q => by
      obtain ⟨cur, bq⟩ := own_tag hoH.out q
      exact set_other _ (tag_ne bq hDH.out.b2 (by decide))
    clear k4 xo xf hDH hoH
    generalize wc.setCell ⟨bx + 2, 2, none⟩ (.int .i64 T.row.length) = W2 at *
    have x0 : W2.cell? ⟨bx, 0, none⟩ = some (.int .i64 kind) := cell_of D2.out.b0 rfl
    have x1 : W2.cell? ⟨bx, 1, none⟩ = some (.int .i64 a) := cell_of D2.out.b0 rfl
    have xc : W2.cell? ⟨bx + 2, 0, none⟩ = some (.int .i64 cd) := cell_of D2.out.b2 rfl
    have hroot : Hid (∀ W, Calls Try.prog 48 #[.int .i64 a] W fun e w' => e = .returned (.bool (isR a)) ∧ w' = W) := fun W => root_calls a W
    obtain ⟨nv, hnv⟩ : ∃ nv, nv = (if cd = 0 ∧ kind < 6 then rootM T a else 0) := ⟨_, rfl⟩
    have hnvH : Hid (nv = (if cd = 0 ∧ kind < 6 then rootM T a else 0)) := hnv
    rw [← hnv] at han
    clear hnv
    go_cut [108] (fun t wx => ∃ q : Bool, t = .bool q ∧ wx = W2 ∧ Hid (q = decide (cd = 0 ∧ kind < 6)))
    case first =>
      by_cases hk : kind < 6
      · by_cases hc0 : cd = 0
        · have hr := hra.out hc0 hk
          rw [hr] at hroot
          subst hc0
          clear hr hra
          go_wp2_with (go_at_call 48; refine (show Calls _ _ _ _ _ from hroot.out _).mono ?_; rintro e W3 ⟨rfl, hw⟩; subst hw)
          go_meet
          exact ⟨true, rfl, rfl, by show true = _; simp [hk]⟩
        · cases hr : isR a with
          | false =>
            rw [hr] at hroot
            clear hra
            go_wp2_with (go_at_call 48; refine (show Calls _ _ _ _ _ from hroot.out _).mono ?_; rintro e W3 ⟨rfl, hw⟩; subst hw)
            go_meet
            exact ⟨false, rfl, rfl, by show false = _; simp [hc0]⟩
          | true =>
            rw [hr] at hroot
            clear hra
            go_wp2_with (go_at_call 48; refine (show Calls _ _ _ _ _ from hroot.out _).mono ?_; rintro e W3 ⟨rfl, hw⟩; subst hw)
            go_meet
            exact ⟨false, by simp [hc0], rfl, by show false = _; simp [hc0]⟩
      · clear hra
        go_wp2_with fail
        go_meet
        exact ⟨false, by simp, rfl, by show false = _; simp [hk]⟩
    case rest =>
    obtain ⟨q, rfl, rfl, hqd⟩ := hcut
    rename World => W2
    clear hroot xc
    go_upto_if 108 with fail
    go_cut [] (fun wx => Hid (DoS w wx F G H T ps fs ov R (.slice qa T.row.length qc) bx ⟨kind, a, b, c⟩ #[.int .i64 cd, .int .i64 nv, .int .i64 T.row.length, .slice ga an.gone.length gc] (.slice ga an.gone.length gc) ∧ OutAt w.heap.size wx (.slice ga an.gone.length gc) an.gone))
    case first =>
      cases q with
      | true =>
        have hqq : cd = 0 ∧ kind < 6 := by have := hqd.out; simpa using this.symm
        obtain ⟨m, rfl, hm⟩ := isR_nat (hra.out hqq.1 hqq.2)
        have hnv2 : Hid (nv = T.roots[m]'(by have := hrl.out; omega)) := by
          show nv = _
          rw [hnvH.out, if_pos hqq, rootM_nat hrl.out hm]
        have k2 : W2.cell? ⟨H, 2, none⟩ = some (.slice (some ⟨R, 0, none⟩) 8 8) := cell_of D2.out.sp.blk rfl
        have kR : W2.cell? ⟨R, m, none⟩ = some (.int .i64 nv) := by
          rw [hnv2.out]
          exact cell_of D2.out.sp.rt (intsV_cell (by have := hrl.out; omega))
        have xo : W2.cell? ⟨bx + 2, 1, none⟩ = some (.int .i64 0) := cell_of D2.out.b2 rfl
        have xf : W2.frozen? ⟨bx + 2, 1, none⟩ = false := free_of D2.out.b2
        have hm8 : (m : Int) < 8 := by omega
        have hD3 : Hid (DoS w (W2.setCell ⟨bx + 2, 1, none⟩ (.int .i64 nv)) F G H T ps fs ov R (.slice qa T.row.length qc) bx ⟨kind, m, b, c⟩ #[.int .i64 cd, .int .i64 nv, .int .i64 T.row.length, .slice ga an.gone.length gc] (.slice ga an.gone.length gc) ∧ OutAt w.heap.size (W2.setCell ⟨bx + 2, 1, none⟩ (.int .i64 nv)) (.slice ga an.gone.length gc) an.gone) := ⟨D2.out.set 1 (.int .i64 nv), own_kept ho2.out fun k q => by
          obtain ⟨cur, bq⟩ := own_tag ho2.out q
          exact set_other _ (tag_ne bq D2.out.b2 (by decide))⟩
        clear hra hnv2 hqq hqd hnvH D2 ho2
        go_wp2_with fail
        go_still_tail 9, (by kernel_rfl)
        go_wp2_with fail
        go_meet
        exact ⟨hD3.out.1.below (Below.drew (Below.refl _ _)), hD3.out.2⟩
      | false =>
        have hnv2 : nv = 0 := by rw [hnvH.out, if_neg (by have := hqd.out; simpa using this.symm)]
        subst hnv2
        clear hra
        go_wp2_with fail
        go_meet
        exact ⟨D2.out, ho2.out⟩
    case rest =>
      have hB := hcut.out.1
      have hO := hcut.out.2
      clear D2 ho2 hcut x0 x1
      rename World => W5
      go_wp2_with (first
        | (refine wpList_load_row rfl 43 _ rfl (bx + 2) rfl 43 _ _ _ hB.b2 Try.underlying43 rfl (by kernel_rfl) ?_)
        | (refine wpList_store_row rfl 43 _ _ rfl (bx + 1) #[.int .i64 cd, .int .i64 nv, .int .i64 T.row.length, .slice ga an.gone.length gc] rfl rfl 43 _ hB.b1 (by kernel_rfl) rfl (all_oneCell_toArray (cs := [.int .i64 cd, .int .i64 nv, .int .i64 T.row.length, .slice ga an.gone.length gc]) (by simp [Value.oneCell'])) ?_))
      (try simp only [Exit.inBlock, Exit.then])
      refine bodyPost_ret (v := .agg #[.int .i64 cd, .int .i64 nv, .int .i64 T.row.length, .slice ga an.gone.length gc]) (results_cell_row rfl _ _ (bx + 1) 43 #[.int .i64 cd, .int .i64 nv, .int .i64 T.row.length, .slice ga an.gone.length gc] (0, 0) _ rfl (setRow_heap _ _ _ _ _ _ hB.b1) Try.underlying43 rfl (by kernel_rfl)) rfl ?_
      rw [hanE.out, hTE.out]
      refine ⟨.slice ga an.gone.length gc, by rw [han.out.1, han.out.2.1, han.out.2.2], ?_, ⟨ps, fs, ov, .slice qa T.row.length qc, ?_⟩, ?_⟩
      · exact own_kept hO fun k q => by
          obtain ⟨cur, bq⟩ := own_tag hO q
          exact setRow_other _ _ _ _ (tag_ne bq hB.b1 (by decide))
      · refine hB.sp.mv (fun k hk hn => ⟨setRow_other _ _ _ _ (fun e => hn (by rw [e]; exact hB.g1)), fun q => ?_⟩) fun k q => ?_
        · rcases q with q | q
          · exact hn (hB.sub k q)
          · exact hn (hB.go k q)
        · rw [setRow_size]
          rcases q with q | q
          · exact hB.sp.lo.2.2 k (hB.sub k q)
          · exact hB.sp.lo.2.2 k (hB.go k q)
      · exact hB.kp.trans ⟨rfl, rfl, rfl, by rw [setRow_size]; omega, fun k hk => setRow_other _ _ _ _ (fun e => hB.nF.2.1 (e ▸ hk))⟩
end Go.Proofs.Ytchcdlelaklnnaa
