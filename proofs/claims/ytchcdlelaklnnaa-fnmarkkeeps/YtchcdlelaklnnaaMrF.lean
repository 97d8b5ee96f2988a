/- The program's run. -/
import Derived.Test.YtchcdlelaklnnaaMrE
import Derived.Test.YtchcdlelaklnnaaMrC
import Derived.Test.YtchcdlelaklnnaaMkP
namespace Go.Proofs.Ytchcdlelaklnnaa
set_option linter.unusedVariables false
open Go.ChangeShapes Go.WideShapes Go.ChangeAt Go.RowKit

theorem made_there {w : World} {B n b : Nat} {xs : List Value} (h : w.ownsRow B 43 4 (.slice (some ⟨b, 0, none⟩) n n) n xs) : w.there b 0 (n * 4) ∧ ∃ cs, w.heap[b]? = some (.cells cs 43 (0, 0)) := by
  obtain ⟨cur, q⟩ := own_tag h (k := b) rfl
  refine ⟨fun j hj => ⟨?_, free_of q⟩, cur, q⟩
  rw [Nat.zero_add, World.ownsRow.cellAt h j hj]
  have := h.1
  rw [List.getElem?_eq_getElem (by omega)]
  rfl
set_option maxRecDepth 100000 in
set_option maxHeartbeats 1000000 in
theorem changedM_calls (w0 w : World) (G0 : Nat → Prop) (M : Nat) (mode : Int) (ov0 tv0 : Value) (ops : List OpM) (va : Option Addr) (vc : Nat) (hI : ImW w G0 M (newM mode) [] [] ov0 tv0) (hB : Below w0.heap.size w0 w) (hG0 : ∀ k, k < w0.heap.size → G0 k) (hmode : mode = 1 ∨ mode = 2) (hl : ops.length ≤ 500)
    (hops : ∀ W, Below w0.heap.size w0 W → ∀ j (hj : j < ops.length), ∃ b off, va = some ⟨b, off, none⟩ ∧ W.rangeAt b (off + j * 4) [.int .i64 ops[j].kind, .int .i64 ops[j].a, .int .i64 ops[j].b, .int .i64 ops[j].c]) :
    Calls Try.prog 13 #[.slice va ops.length vc, .func (.func 15) #[.pointer (some ⟨M, 0, none⟩)] #[]] w fun e w' => ∃ b cut gs, e = .returned (.slice (some ⟨b, 0, none⟩) ops.length ops.length) ∧ AnsX w0.heap.size w'.heap.size w' (.slice (some ⟨b, 0, none⟩) ops.length ops.length) (ansL (newM mode) ops) b ops.length cut gs ∧ Below w0.heap.size w0 w' := by
  obtain ⟨i8, hi8, hz8, hs8, hb8⟩ := obs_info
  have hst : Hid ((Try.prog.info? 43).map (·.size) = some 4) := by show (Try.prog.info? 43).map (·.size) = some 4; kernel_rfl
  have hGd : Hid (∀ m, GoodM (runM (newM mode) (ops.take m))) := fun m => (GoodM.new hmode).run _
  have hopsH : Hid (∀ W, Below w0.heap.size w0 W → ∀ j (hj : j < ops.length), ∃ b off, va = some ⟨b, off, none⟩ ∧ W.rangeAt b (off + j * 4) [.int .i64 ops[j].kind, .int .i64 ops[j].a, .int .i64 ops[j].b, .int .i64 ops[j].c]) := hops
  have hs0 := hB.size
  have hstart : Hid (∀ w1 : World, w1.ownsRow w.heap.size 43 4 (.slice (some ⟨w.heap.size, 0, none⟩) ops.length ops.length) ops.length (madeCells (Value.agg #[.int .i64 0, .int .i64 0, .int .i64 0, .slice none 0 0]).cells (ops.length * 4)).toList → w.grownBy w1 none → RunM w0 w1 M (runM (newM mode) (ops.take 0)) w.heap.size ops.length 0 (ansL (newM mode) (ops.take 0)) (fun k => G0 k ∨ k = w.heap.size) [] [] ov0 tv0 (fun _ => w1.heap.size) []) := fun w1 hown hg => by
    have hb1 : Below w.heap.size w w1 := below_of_grown hg (Nat.le_refl _)
    obtain ⟨h1, h2⟩ := made_there hown
    have hlt := lt_of h2.choose_spec
    refine ⟨?_, hB.trans (hb1.mono hs0), fun k hk => .inl (hG0 k hk), .inr rfl, rfl, ⟨hs0, hlt, Nat.le_refl _⟩, fun j hj => by omega, h1, h2, rfl, fun j hj => by simp [ansL] at hj, fun j g k hg => by simp at hg⟩
    exact hI.mv (fun k hk hn => ⟨hb1.block k hk, fun q => by
      rcases q with q | q
      · exact hn q
      · omega⟩) fun k q => by
      rcases q with q | q
      · have := hI.lo.2 k q
        have := hb1.size
        omega
      · omega
  have hl' : (ops.length : Int) ≤ 500 := by omega
  have hs0H : Hid (w0.heap.size ≤ w.heap.size) := hs0
  clear hI hB hG0 hops hs0
  go_enter Try.func13, Try.ntmps13
  go_wp2_with (refine wpList_make_full _ rfl (.tmp 9) (.tmp 9) 24 rfl w.heap.size 43 i8 (.agg #[.int .i64 0, .int .i64 0, .int .i64 0, .slice none 0 0]) 4 Try.underlying24 hi8 hz8 hs8 .i64 .i64 ops.length ops.length ops.length rfl rfl rfl rfl (by rw [hb8]; omega) (by unfold maxLen; omega) (Nat.le_refl _) ?_; intro w1 hown1 hgrow1; have hR1 : Hid _ := hstart.out w1 hown1 hgrow1; clear hown1 hgrow1)
  generalize w.heap.size = b at hR1 hs0H ⊢
  clear hstart
  go_loopw [13] (fun i wr => ∃ m : Nat, m ≤ ops.length ∧ i = .int .i64 m ∧ Hid (∃ (G : Nat → Prop) (ps fs : List Nat) (ov tv : Value) (cut : Nat → Nat) (gs : List Value), RunM w0 wr M (runM (newM mode) (ops.take m)) b ops.length m (ansL (newM mode) (ops.take m)) G ps fs ov tv cut gs)) (fun i _ => ops.length - (intOf i).toNat)
  case atStart => exact ⟨0, Nat.zero_le _, rfl, ⟨_, _, _, _, _, _, _, hR1.out⟩⟩
  case round =>
    clear hR1
    obtain ⟨m, hm, rfl, hrel⟩ := hrel
    obtain ⟨G, ps, fs, ov, tv, cut, gs, hR0⟩ := hrel.out
    have hR : Hid _ := hR0
    clear hR0 hrel
    have hm0 : (0 : Int) ≤ m := by omega
    by_cases hlt : m < ops.length
    · have hlt' : (m : Int) < (ops.length : Int) := by omega
      obtain ⟨pb, off, rfl, hrg⟩ := hopsH.out wr hR.out.hb m hlt
      have hdo : Hid (∀ W, Below wr.heap.size wr W → Calls Try.prog 15 #[.pointer (some ⟨M, 0, none⟩), .agg #[.int .i64 ops[m].kind, .int .i64 ops[m].a, .int .i64 ops[m].b, .int .i64 ops[m].c]] W fun e w' => ∃ gv, e = .returned (.agg #[.int .i64 (ansM (runM (newM mode) (ops.take m)) ops[m]).code, .int .i64 (ansM (runM (newM mode) (ops.take m)) ops[m]).n, .int .i64 (ansM (runM (newM mode) (ops.take m)) ops[m]).grey, gv]) ∧ OutAt W.heap.size w' gv (ansM (runM (newM mode) (ops.take m)) ops[m]).gone ∧ (∃ ps' fs' ov' tv', ImW w' (fun k => G k ∨ gv.ownBlock = some k) M (doM (runM (newM mode) (ops.take m)) ops[m]) ps' fs' ov' tv') ∧ Keep G W w') := fun W hW => doM_calls W G M _ ps fs ov tv ops[m] (hR.out.im.below hW) (hGd.out m)
      have hE : Hid (runM (newM mode) (ops.take (m + 1)) = doM (runM (newM mode) (ops.take m)) ops[m] ∧ ansL (newM mode) (ops.take (m + 1)) = ansL (newM mode) (ops.take m) ++ [ansM (runM (newM mode) (ops.take m)) ops[m]]) := by
        rw [ops_snoc hlt]
        exact ⟨runM_snoc _ _ _, ansL_snoc _ _ _⟩
      have hnx : Hid (∀ (W : World) (gv : Value) (ps' fs' : List Nat) (ov' tv' : Value), ImW W (fun k => G k ∨ gv.ownBlock = some k) M (doM (runM (newM mode) (ops.take m)) ops[m]) ps' fs' ov' tv' → Keep G wr W → OutAt wr.heap.size W gv (ansM (runM (newM mode) (ops.take m)) ops[m]).gone → W.there b (m * 4) 4 ∧ ∃ (G : Nat → Prop) (ps fs : List Nat) (ov tv : Value) (cut : Nat → Nat) (gs : List Value), RunM w0 (W.setCells b (m * 4) [.int .i64 (ansM (runM (newM mode) (ops.take m)) ops[m]).code, .int .i64 (ansM (runM (newM mode) (ops.take m)) ops[m]).n, .int .i64 (ansM (runM (newM mode) (ops.take m)) ops[m]).grey, gv]) M (runM (newM mode) (ops.take (m + 1))) b ops.length (m + 1) (ansL (newM mode) (ops.take (m + 1))) G ps fs ov tv cut gs) := fun W gv ps' fs' ov' tv' a1 a2 a3 => by
        rw [hE.out.1, hE.out.2]
        obtain ⟨q1, q2⟩ := hR.out.next hlt a1 a2 a3
        exact ⟨q1, _, _, _, _, _, _, _, q2⟩
      have hGsz : Hid (∀ k, G k → k < wr.heap.size) := hR.out.im.lo.2
      generalize ansM (runM (newM mode) (ops.take m)) ops[m] = an at *
      generalize doM (runM (newM mode) (ops.take m)) ops[m] = T at *
      have c0 : wr.cell? ⟨pb, off + m * 4, none⟩ = some (.int .i64 ops[m].kind) := hrg 0 _ rfl
      have c1 : wr.cell? ⟨pb, off + m * 4 + 1, none⟩ = some (.int .i64 ops[m].a) := hrg 1 _ rfl
      have c2 : wr.cell? ⟨pb, off + m * 4 + 2, none⟩ = some (.int .i64 ops[m].b) := hrg 2 _ rfl
      have c3 : wr.cell? ⟨pb, off + m * 4 + 3, none⟩ = some (.int .i64 ops[m].c) := hrg 3 _ rfl
      generalize ops[m] = op at *
      obtain ⟨okd, oka, okb, okc⟩ := op
      clear hE hR hrg
      simp only at c0 c1 c2 c3 hdo
      have hdo3 : Hid (Calls Try.prog 15 #[.pointer (some ⟨M, 0, none⟩), .agg #[.int .i64 okd, .int .i64 oka, .int .i64 okb, .int .i64 okc]] (wr.alloc (.cells #[.int .i64 okd, .int .i64 oka, .int .i64 okb, .int .i64 okc] 27)) fun e w' => ∃ R4 : List Value, e = .returned (.agg R4.toArray) ∧ R4.length = 4 ∧ R4.toArray.all (·.oneCell') = true ∧ w'.there b (m * 4) 4 ∧ ∃ (G : Nat → Prop) (ps fs : List Nat) (ov tv : Value) (cut : Nat → Nat) (gs : List Value), RunM w0 (w'.setCells b (m * 4) R4) M (runM (newM mode) (ops.take (m + 1))) b ops.length (m + 1) (ansL (newM mode) (ops.take (m + 1))) G ps fs ov tv cut gs) := by
        have hK1 : Keep G wr (wr.alloc (.cells #[.int .i64 okd, .int .i64 oka, .int .i64 okb, .int .i64 okc] 27)) := Keep.of (below_1 _ _) hGsz.out
        refine (hdo.out (wr.alloc (.cells #[.int .i64 okd, .int .i64 oka, .int .i64 okb, .int .i64 okc] 27)) (below_1 _ _)).mono ?_
        rintro e W3 ⟨gv, rfl, ho3, ⟨ps3, fs3, ov3, tv3, hI3⟩, hK3⟩
        obtain ⟨q1, q2⟩ := hnx.out W3 gv ps3 fs3 ov3 tv3 hI3 (hK1.trans hK3) (own_mono ho3 hK1.size)
        obtain ⟨ga, gc, rfl⟩ := own_slice ho3
        exact ⟨_, rfl, rfl, all_oneCell_toArray (by simp [Value.oneCell']), q1, q2⟩
      clear hdo hnx hGsz hGd hopsH
      go_wp2_with (first
        | (go_at_call 15; refine (show Calls _ _ _ _ _ from hdo3.out).mono ?_; rintro e W3 ⟨R4, rfl, hr4, hone, hth, hrun⟩; have hr4H : Hid (R4.length = 4) := hr4; have honeH : Hid _ := hone; have hthH : Hid (W3.there b (m * 4) 4) := hth; have hrunH : Hid _ := hrun; clear hr4 hone hth hrun)
        | (refine wpList_store_mid rfl 43 _ _ rfl b (m * 4) R4.toArray (by first | rfl | (simp; done)) (by first | rfl | (simp; done)) (by simpa [hr4H.out] using hthH.out) (by simpa [hr4H.out] using hst.out) honeH.out ?_))
      go_roundw
      case rel => exact ⟨m + 1, by omega, by go_num, hrunH⟩
      case measure => simp [intOf]; omega
    · have hge : ¬ ((m : Int) < (ops.length : Int)) := by omega
      have hmE : m = ops.length := by omega
      subst hmE
      have hfin : Hid (∃ cut gs, AnsX w0.heap.size wr.heap.size wr (.slice (some ⟨b, 0, none⟩) ops.length ops.length) (ansL (newM mode) ops) b ops.length cut gs ∧ Below w0.heap.size w0 wr) := by
        have h1 := hR.out
        rw [List.take_length] at h1
        have hxl : (ansL (newM mode) ops).length = ops.length := ansL_length _ _
        refine ⟨cut, gs, ⟨by rw [hxl], ⟨h1.lo.1, h1.lo.2.1, by rw [hxl]; exact h1.lo.2.2, Nat.le_refl _⟩, fun j hj => h1.mono j (by rw [← hxl]; exact hj), by rw [hxl]; exact h1.room, h1.cells⟩, h1.hb⟩
      clear hR
      go_wp2
      go_ret
      obtain ⟨cut, gs, q1, q2⟩ := hfin.out
      first | exact ⟨b, cut, gs, rfl, q1, q2⟩ | exact ⟨b, rfl, ⟨cut, gs, q1⟩, q2⟩ | exact ⟨b, rfl, cut, ⟨gs, q1⟩, q2⟩
set_option maxRecDepth 100000 in
theorem markOk_calls (mode : Int) (a : Option Addr) (n c : Nat) (w : World) : Calls Try.prog 12 #[.int .i64 mode, .slice a n c] w fun e w' => e = .returned (.bool (runOk mode n)) ∧ w' = w := by
  obtain ⟨q, hq⟩ : ∃ q, q = runOk mode n := ⟨_, rfl⟩
  have hqH : Hid (q = runOk mode n) := hq
  rw [← hq]
  clear hq
  have hbt : Hid (Calls Try.prog 26 #[.int .i64 mode, .int .i64 1, .int .i64 2] w fun e w' => e = .returned (.bool (btw mode 1 2)) ∧ w' = w) := between_calls mode 1 2 w
  by_cases h1 : mode = 1 ∨ mode = 2
  · have hb : btw mode 1 2 = true := by simp [btw]; omega
    rw [hb] at hbt
    have hf : Hid (q = decide (n ≤ 500)) := by show q = _; rw [hqH.out]; simp [runOk, h1]
    clear h1 hb
    by_cases hn : n ≤ 500
    · have hn' : (n : Int) ≤ 500 := by omega
      go_enter Try.func12, Try.ntmps12
      go_wp2_with (go_at_call 26; refine (show Calls _ _ _ _ _ from hbt.out).mono ?_; rintro e w1 ⟨rfl, hw⟩; subst hw)
      go_ret
      exact ⟨by rw [hf.out]; first | (simp [hn]; done) | (simp; omega), rfl⟩
    · have hn' : ¬ (n : Int) ≤ 500 := by omega
      go_enter Try.func12, Try.ntmps12
      go_wp2_with (go_at_call 26; refine (show Calls _ _ _ _ _ from hbt.out).mono ?_; rintro e w1 ⟨rfl, hw⟩; subst hw)
      go_ret
      exact ⟨by rw [hf.out]; first | (simp [hn]; done) | (simp; omega), rfl⟩
  · have hb : btw mode 1 2 = false := by simp [btw]; omega
    rw [hb] at hbt
    have hf : Hid (q = false) := by show q = _; rw [hqH.out]; simp [runOk]; intro q; exact absurd q h1
    go_enter Try.func12, Try.ntmps12
    go_wp2_with (go_at_call 26; refine (show Calls _ _ _ _ _ from hbt.out).mono ?_; rintro e w1 ⟨rfl, hw⟩; subst hw)
    go_ret
    exact ⟨by rw [hf.out]; rfl, rfl⟩
/-- An answer of the program's: nothing, or a row that may be marked. -/
structure AnsO (lo hi : Nat) (w : World) (v : Value) (xs : List AnsM) : Prop where
  form : ∃ a c, v = .slice a xs.length c
  row : xs = [] ∨ ∃ b c cut gs, AnsX lo hi w v xs b c cut gs
theorem AnsO.ans {lo hi : Nat} {w : World} {v : Value} {xs : List AnsM} (h : AnsO lo hi w v xs) : AnsR lo hi w v xs := by
  rcases h.row with e | ⟨b, c, cut, gs, q⟩
  · exact ⟨h.form, fun j hj => by rw [e] at hj; simp at hj⟩
  · exact q.ans
set_option maxRecDepth 100000 in
set_option maxHeartbeats 1000000 in
theorem implRun_calls (w : World) (mode : Int) (ops : List OpM) (v : Value) (own : Bool) (lo hi : Nat) (h : ListAt MopR 4 own lo hi w v ops) (hh : hi ≤ w.heap.size) :
    Calls Try.prog 5 #[.int .i64 mode, v] w fun e w' => ∃ u, e = .returned u ∧ AnsO w.heap.size w'.heap.size w' u (ansRun mode ops) ∧ Below w.heap.size w w' := by
  obtain ⟨va, vc, rfl⟩ := h.form
  have hok : Hid (∀ W, Calls Try.prog 12 #[.int .i64 mode, .slice va ops.length vc] W fun e w' => e = .returned (.bool (runOk mode ops.length)) ∧ w' = W) := fun W => markOk_calls mode va ops.length vc W
  have hops : Hid (∀ W, Below w.heap.size w W → ∀ j (hj : j < ops.length), ∃ b off, va = some ⟨b, off, none⟩ ∧ W.rangeAt b (off + j * 4) [.int .i64 ops[j].kind, .int .i64 ops[j].a, .int .i64 ops[j].b, .int .i64 ops[j].c]) := fun W hW j hj => by
    obtain ⟨b, off, row, e, _, _, hr, hx⟩ := (h.kept MopR.stable (Nat.le_refl _) (Nat.le_refl _) ((Same.below hW).mono (Nat.zero_le _) hh)).at j hj
    have hx : row = _ := hx
    rw [hx] at hr
    exact ⟨b, off, e, hr⟩
  obtain ⟨q, hq⟩ : ∃ q, q = runOk mode ops.length := ⟨_, rfl⟩
  have hqH : Hid (q = runOk mode ops.length) := hq
  rw [← hq] at hok
  clear h hq
  cases q with
  | false =>
    have hA : Hid (ansRun mode ops = []) := by show _ = _; unfold ansRun; rw [← hqH.out]; rfl
    go_enter Try.func5, Try.ntmps5
    go_wp2_with (go_at_call 12; refine (show Calls _ _ _ _ _ from hok.out _).mono ?_; rintro e W1 ⟨rfl, hw⟩; subst hw)
    go_ret
    exact ⟨_, rfl, by rw [hA.out]; exact ⟨⟨_, _, rfl⟩, .inl rfl⟩, Below.refl _ _⟩
  | true =>
    have hA : Hid (ansRun mode ops = ansL (newM mode) ops ∧ (mode = 1 ∨ mode = 2) ∧ ops.length ≤ 500) := by
      have := hqH.out
      refine ⟨by unfold ansRun; rw [← this]; rfl, ?_⟩
      simp [runOk] at this
      exact this
    have hch : Hid (∀ (W : World) (M : Nat) (ov : Value), ImW W (fun k => k < w.heap.size) M (newM mode) [] [] ov (.slice none 0 0) → Below w.heap.size w W → Calls Try.prog 13 #[.slice va ops.length vc, .func (.func 15) #[.pointer (some ⟨M, 0, none⟩)] #[]] W fun e w' => ∃ u, e = .returned u ∧ AnsO w.heap.size w'.heap.size w' u (ansRun mode ops) ∧ Below w.heap.size w w') := fun W M ov hI hB => by
      refine (changedM_calls w W _ M mode ov _ ops va vc hI hB (fun k hk => hk) hA.out.2.1 hA.out.2.2 hops.out).mono ?_
      rintro e w' ⟨b, cut, gs, rfl, hX, hB2⟩
      refine ⟨_, rfl, ?_, hB2⟩
      rw [hA.out.1]
      exact ⟨⟨_, _, by rw [ansL_length]⟩, .inr ⟨_, _, _, _, hX⟩⟩
    clear hops
    go_enter Try.func5, Try.ntmps5
    go_wp2_with (first
      | (go_at_call 12; refine (show Calls _ _ _ _ _ from hok.out _).mono ?_; rintro e W1 ⟨rfl, hw⟩; subst hw)
      | (go_at_call 14; refine (newM_calls _ mode).mono ?_; rintro e W2 ⟨M, ov, rfl, hI2, hB2⟩; have hI2H : Hid _ := hI2; have hB2H : Hid _ := hB2; clear hI2 hB2)
      | (go_at_call 13; refine (show Calls _ _ _ _ _ from hch.out W2 M ov hI2H.out hB2H.out).mono ?_; rintro e W3 ⟨u, rfl, hA3, hB3⟩; have hA3H : Hid _ := hA3; have hB3H : Hid _ := hB3; clear hA3 hB3))
    go_ret
    exact ⟨_, rfl, hA3H.out, hB3H.out⟩
end Go.Proofs.Ytchcdlelaklnnaa

/- Answers and ops marked. -/
namespace Go.Proofs.Ytchcdlelaklnnaa
set_option linter.unusedVariables false
open Go.ChangeShapes Go.WideShapes Go.ChangeAt Go.RowKit

theorem set3 (w : World) (b o : Nat) (v0 v1 v2 : Value) (ht : w.there b o 3) : ∃ W, W = (((w.setCell ⟨b, o, none⟩ v0).setCell ⟨b, o + 1, none⟩ v1).setCell ⟨b, o + 2, none⟩ v2) ∧
    Touch b (b + 1) w W ∧ (∀ j, j < o ∨ o + 3 ≤ j → W.cell? ⟨b, j, none⟩ = w.cell? ⟨b, j, none⟩) ∧ W.cell? ⟨b, o, none⟩ = some v0 ∧ W.cell? ⟨b, o + 1, none⟩ = some v1 ∧ W.cell? ⟨b, o + 2, none⟩ = some v2 := by
  have hne : ∀ i j, i ≠ j → (⟨b, i, none⟩ : Addr) ≠ ⟨b, j, none⟩ := fun i j h e => h (by injection e)
  obtain ⟨y0, h0⟩ := Option.isSome_iff_exists.1 (ht 0 (by omega)).1
  obtain ⟨y1, h1⟩ := Option.isSome_iff_exists.1 (ht 1 (by omega)).1
  obtain ⟨y2, h2⟩ := Option.isSome_iff_exists.1 (ht 2 (by omega)).1
  have h0 : w.cell? ⟨b, o, none⟩ = some y0 := h0
  clear ht
  have n01 := hne o (o + 1) (by omega)
  have n02 := hne o (o + 2) (by omega)
  have n12 := hne (o + 1) (o + 2) (by omega)
  obtain ⟨W1, e1⟩ : ∃ W1, W1 = w.setCell ⟨b, o, none⟩ v0 := ⟨_, rfl⟩
  have a0 : W1.cell? ⟨b, o, none⟩ = some v0 := by rw [e1]; exact World.cell?_setCell_same _ _ _ h0
  have a1 : W1.cell? ⟨b, o + 1, none⟩ = some y1 := by rw [e1, World.cell?_setCell_other w _ _ v0 n01]; exact h1
  have a2 : W1.cell? ⟨b, o + 2, none⟩ = some y2 := by rw [e1, World.cell?_setCell_other w _ _ v0 n02]; exact h2
  have ao : ∀ j, j < o ∨ o + 3 ≤ j → W1.cell? ⟨b, j, none⟩ = w.cell? ⟨b, j, none⟩ := fun j hj => by rw [e1, World.cell?_setCell_other w _ _ v0 (hne _ _ (by omega))]
  have at_ : Touch b (b + 1) w W1 := by rw [e1]; exact Touch.setCell w b o v0 (Nat.le_refl _) (by omega) h0
  rw [← e1]
  clear e1 h0 h1 h2
  obtain ⟨W2, e2⟩ : ∃ W2, W2 = W1.setCell ⟨b, o + 1, none⟩ v1 := ⟨_, rfl⟩
  have b0 : W2.cell? ⟨b, o, none⟩ = some v0 := by rw [e2, World.cell?_setCell_other W1 _ _ v1 (Ne.symm n01)]; exact a0
  have b1 : W2.cell? ⟨b, o + 1, none⟩ = some v1 := by rw [e2]; exact World.cell?_setCell_same _ _ _ a1
  have b2 : W2.cell? ⟨b, o + 2, none⟩ = some y2 := by rw [e2, World.cell?_setCell_other W1 _ _ v1 n12]; exact a2
  have bo : ∀ j, j < o ∨ o + 3 ≤ j → W2.cell? ⟨b, j, none⟩ = w.cell? ⟨b, j, none⟩ := fun j hj => by rw [e2, World.cell?_setCell_other W1 _ _ v1 (hne _ _ (by omega))]; exact ao j hj
  have bt : Touch b (b + 1) w W2 := at_.trans (by rw [e2]; exact Touch.setCell W1 b (o + 1) v1 (Nat.le_refl _) (by omega) a1)
  rw [← e2]
  clear e2 a0 a1 a2 ao at_
  obtain ⟨W3, e3⟩ : ∃ W3, W3 = W2.setCell ⟨b, o + 2, none⟩ v2 := ⟨_, rfl⟩
  have c0 : W3.cell? ⟨b, o, none⟩ = some v0 := by rw [e3, World.cell?_setCell_other W2 _ _ v2 (Ne.symm n02)]; exact b0
  have c1 : W3.cell? ⟨b, o + 1, none⟩ = some v1 := by rw [e3, World.cell?_setCell_other W2 _ _ v2 (Ne.symm n12)]; exact b1
  have c2 : W3.cell? ⟨b, o + 2, none⟩ = some v2 := by rw [e3]; exact World.cell?_setCell_same _ _ _ b2
  have co : ∀ j, j < o ∨ o + 3 ≤ j → W3.cell? ⟨b, j, none⟩ = w.cell? ⟨b, j, none⟩ := fun j hj => by rw [e3, World.cell?_setCell_other W2 _ _ v2 (hne _ _ (by omega))]; exact bo j hj
  have ct : Touch b (b + 1) w W3 := bt.trans (by rw [e3]; exact Touch.setCell W2 b (o + 2) v2 (Nat.le_refl _) (by omega) b2)
  exact ⟨W3, e3, ct, co, c0, c1, c2⟩
theorem AnsX.marked {lo hi : Nat} {w W W' : World} {v : Value} {ys : List AnsM} {b c : Nat} {cut : Nat → Nat} {gs : List Value} (h : AnsX lo hi w v ys b c cut gs) {m : Nat} (hm : m < ys.length) {g : Value} (hg : gs[m]? = some g) (x : AnsM)
    (hT : Touch b (b + 1) w W) (hc : ∀ j, j < m * 4 ∨ m * 4 + 3 ≤ j → W.cell? ⟨b, j, none⟩ = w.cell? ⟨b, j, none⟩) (hr0 : W.cell? ⟨b, m * 4, none⟩ = some (.int .i64 x.code)) (hr1 : W.cell? ⟨b, m * 4 + 1, none⟩ = some (.int .i64 x.n)) (hr2 : W.cell? ⟨b, m * 4 + 2, none⟩ = some (.int .i64 x.grey))
    (hT2 : Touch (cut m) (cut (m + 1)) W W') (hI : IntsAt (cut m) (cut (m + 1)) W' g x.gone) : AnsX lo hi W' v (ys.set m x) b c cut gs := by
  have hl := h.lo
  have s1 := hT.1
  have s2 := hT2.1
  have c0 := cut_le h.mono (Nat.zero_le m) (Nat.le_of_lt hm)
  have c1 := cut_le h.mono (show m + 1 ≤ ys.length from hm) (Nat.le_refl _)
  have c2 := h.mono m hm
  have hbm : b < cut m := by omega
  have hbw : b < w.heap.size := by omega
  have hbs : b < W.heap.size := by omega
  have hcb : ∀ j, W'.cell? ⟨b, j, none⟩ = W.cell? ⟨b, j, none⟩ := fun j => (hT2.2.2 ⟨b, j, none⟩ hbs).1 (.inl hbm)
  refine ⟨by rw [List.length_set]; exact h.form, by rw [List.length_set]; omega, fun j hj => h.mono j (by simpa using hj), ?_, fun j hj => ?_⟩
  · rw [List.length_set]
    exact hT2.there (by omega) (hT.there (by omega) h.room)
  · have hj2 : j < ys.length := by simpa using hj
    obtain ⟨g', e1, r, i⟩ := h.cells j hj2
    by_cases e : j = m
    · subst e
      rw [hg] at e1
      injection e1 with e1
      subst e1
      refine ⟨g, hg, ?_, by rw [List.getElem_set_self]; exact hI⟩
      rw [List.getElem_set_self]
      intro k u hu
      rw [hcb]
      match k, hu with
      | 0, hu => injection hu with hu; rw [← hu]; exact hr0
      | 1, hu => injection hu with hu; rw [← hu]; exact hr1
      | 2, hu => injection hu with hu; rw [← hu]; exact hr2
      | 3, hu => rw [hc _ (.inr (by omega))]; exact r 3 u hu
      | n + 4, hu => simp at hu
    · refine ⟨g', e1, ?_, ?_⟩
      · rw [List.getElem_set_ne (fun q => e q.symm)]
        intro k u hu
        have hk : k < 4 := by
          have := List.getElem?_eq_some_iff.1 hu
          obtain ⟨hk, _⟩ := this
          simpa using hk
        rw [hcb, hc _ (by omega)]
        exact r k u hu
      · rw [List.getElem_set_ne (fun q => e q.symm)]
        have d0 := cut_le h.mono (Nat.zero_le j) (Nat.le_of_lt hj2)
        have d1 := cut_le h.mono (show j + 1 ≤ ys.length from hj2) (Nat.le_refl _)
        refine (i.kept (hT.same (by omega) (.inr (by omega)))).kept (hT2.same (by omega) ?_)
        by_cases q : j < m
        · exact .inl (cut_le h.mono (show j + 1 ≤ m from q) (by omega))
        · exact .inr (cut_le h.mono (show m + 1 ≤ j by omega) (by omega))
/-- Marked as far as m. -/
def markTo (k : Int) (xs : List AnsM) (m : Nat) : List AnsM := (markA k xs).take m ++ xs.drop m
theorem markTo_length (k : Int) (xs : List AnsM) (m : Nat) (h : m ≤ xs.length) : (markTo k xs m).length = xs.length := by simp [markTo, markA_length]; omega
theorem markTo_get (k : Int) (xs : List AnsM) (m : Nat) (h : m < xs.length) : (markTo k xs m)[m]'(by rw [markTo_length k xs m (by omega)]; exact h) = xs[m] := by
  unfold markTo
  rw [List.getElem_append_right (by simp [markA_length]; omega)]
  simp [markA_length]
  congr 1
  omega
theorem markTo_set (k : Int) (xs : List AnsM) (m : Nat) (h : m < xs.length) : (markTo k xs m).set m ((markA k xs)[m]'(by rw [markA_length]; exact h)) = markTo k xs (m + 1) := by
  have hl := markA_length xs k
  apply List.ext_getElem?
  intro j
  unfold markTo
  rw [List.getElem?_set]
  by_cases e : m = j
  · subst e
    rw [if_pos rfl, if_pos (by simp [hl]; omega), List.getElem?_append_left (by simp [hl]; omega), List.getElem?_take_of_lt (by omega), List.getElem?_eq_getElem (by omega)]
  · rw [if_neg e]
    by_cases q : j < m
    · rw [List.getElem?_append_left (by simp [hl]; omega), List.getElem?_append_left (by simp [hl]; omega), List.getElem?_take_of_lt q, List.getElem?_take_of_lt (by omega)]
    · rw [List.getElem?_append_right (by simp [hl]; omega), List.getElem?_append_right (by simp [hl]; omega)]
      simp only [List.length_take, List.getElem?_drop, hl]
      congr 1
      omega
end Go.Proofs.Ytchcdlelaklnnaa
