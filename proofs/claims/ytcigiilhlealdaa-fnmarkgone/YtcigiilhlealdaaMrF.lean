/- The program's run. -/
import Derived.Test.YtcigiilhlealdaaMrE
import Derived.Test.YtcigiilhlealdaaMrD
namespace Go.Proofs.Ytcigiilhlealdaa
set_option linter.unusedVariables false
open Go.ChangeShapes Go.WideShapes Go.ChangeAt Go.RowKit

theorem made_there {w : World} {B n b : Nat} {xs : List Value} (h : w.ownsRow B 33 4 (.slice (some ⟨b, 0, none⟩) n n) n xs) : w.there b 0 (n * 4) ∧ ∃ cs, w.heap[b]? = some (.cells cs 33 (0, 0)) := by
  obtain ⟨cur, q⟩ := own_tag h (k := b) rfl
  refine ⟨fun j hj => ⟨?_, free_of q⟩, cur, q⟩
  rw [Nat.zero_add, World.ownsRow.cellAt h j hj]
  have := h.1
  rw [List.getElem?_eq_getElem (by omega)]
  rfl
set_option maxRecDepth 100000 in
set_option maxHeartbeats 1000000 in
theorem changedM_calls (w0 w : World) (G0 : Nat → Prop) (M : Nat) (mode : Int) (ov0 tv0 : Value) (ops : List OpM) (va : Option Addr) (vc : Nat) (hI : ImW w G0 M (newM mode) [] [] ov0 tv0) (hB : Below w0.heap.size w0 w) (hG0 : ∀ k, k < w0.heap.size → G0 k) (hmode : mode = 1 ∨ mode = 2) (hl : ops.length ≤ 500)
    (hops : ∀ W, Below w0.heap.size w0 W → ∀ j (hj : j < ops.length), ∃ b off, va = some ⟨b, off, none⟩ ∧ W.rangeAt b (off + j * 4) [.int .i64 ops[j].kind, .int .i64 ops[j].a, .int .i64 ops[j].b, .int .i64 ops[j].c]) :
    Calls Try.prog 25 #[.slice va ops.length vc, .func (.func 27) #[.pointer (some ⟨M, 0, none⟩)] #[]] w fun e w' => ∃ b cut gs, e = .returned (.slice (some ⟨b, 0, none⟩) ops.length ops.length) ∧ AnsX w0.heap.size w'.heap.size w' (.slice (some ⟨b, 0, none⟩) ops.length ops.length) (ansL (newM mode) ops) b ops.length cut gs ∧ Below w0.heap.size w0 w' := by
  obtain ⟨i8, hi8, hz8, hs8, hb8⟩ := obs_info
  have hst : Hid ((Try.prog.info? 33).map (·.size) = some 4) := by show (Try.prog.info? 33).map (·.size) = some 4; kernel_rfl
  have hGd : Hid (∀ m, GoodM (runM (newM mode) (ops.take m))) := fun m => (GoodM.new hmode).run _
  have hopsH : Hid (∀ W, Below w0.heap.size w0 W → ∀ j (hj : j < ops.length), ∃ b off, va = some ⟨b, off, none⟩ ∧ W.rangeAt b (off + j * 4) [.int .i64 ops[j].kind, .int .i64 ops[j].a, .int .i64 ops[j].b, .int .i64 ops[j].c]) := hops
  have hs0 := hB.size
  have hstart : Hid (∀ w1 : World, w1.ownsRow w.heap.size 33 4 (.slice (some ⟨w.heap.size, 0, none⟩) ops.length ops.length) ops.length (madeCells (Value.agg #[.int .i64 0, .int .i64 0, .int .i64 0, .slice none 0 0]).cells (ops.length * 4)).toList → w.grownBy w1 none → RunM w0 w1 M (runM (newM mode) (ops.take 0)) w.heap.size ops.length 0 (ansL (newM mode) (ops.take 0)) (fun k => G0 k ∨ k = w.heap.size) [] [] ov0 tv0 (fun _ => w1.heap.size) []) := fun w1 hown hg => by
    have hb1 : Below w.heap.size w w1 := below_of_grown hg (Nat.le_refl _)
    obtain ⟨h1, h2⟩ := made_there hown
    have hlt := lt_of h2.choose_spec
    refine ⟨?_, hB.trans (hb1.mono hs0), fun k hk => .inl (hG0 k hk), .inr rfl, rfl, ⟨hs0, hlt, Nat.le_refl _⟩, fun j hj => by omega, h1, h2, rfl, fun j hj => by simp [ansL] at hj, fun j g k hg => by simp at hg⟩
    exact hI.mv (fun k hk hn => ⟨hb1.block k hk, fun q => by
      rcases q with q | q
      · exact hn q
      · omega⟩) fun k q => by
      rcases q with q | q
      · have := hI.lo.2 k q
        have := hb1.size
        omega
      · omega
  have hl' : (ops.length : Int) ≤ 500 := by omega
  have hs0H : Hid (w0.heap.size ≤ w.heap.size) := hs0
  clear hI hB hG0 hops hs0
  go_enter Try.func25, Try.ntmps25
  go_wp2_with (refine wpList_make_full _ rfl (.tmp 9) (.tmp 9) 24 rfl w.heap.size 33 i8 (.agg #[.int .i64 0, .int .i64 0, .int .i64 0, .slice none 0 0]) 4 Try.underlying24 hi8 hz8 hs8 .i64 .i64 ops.length ops.length ops.length rfl rfl rfl rfl (by rw [hb8]; omega) (by unfold maxLen; omega) (Nat.le_refl _) ?_; intro w1 hown1 hgrow1; have hR1 : Hid _ := hstart.out w1 hown1 hgrow1; clear hown1 hgrow1)
  generalize w.heap.size = b at hR1 hs0H ⊢
  clear hstart
  go_loopw [13] (fun i wr => ∃ m : Nat, m ≤ ops.length ∧ i = .int .i64 m ∧ Hid (∃ (G : Nat → Prop) (ps fs : List Nat) (ov tv : Value) (cut : Nat → Nat) (gs : List Value), RunM w0 wr M (runM (newM mode) (ops.take m)) b ops.length m (ansL (newM mode) (ops.take m)) G ps fs ov tv cut gs)) (fun i _ => ops.length - (intOf i).toNat)
  case atStart => exact ⟨0, Nat.zero_le _, rfl, ⟨_, _, _, _, _, _, _, hR1.out⟩⟩
  case round =>
    clear hR1
    obtain ⟨m, hm, rfl, hrel⟩ := hrel
    obtain ⟨G, ps, fs, ov, tv, cut, gs, hR0⟩ := hrel.out
    have hR : Hid _ := hR0
    clear hR0 hrel
    have hm0 : (0 : Int) ≤ m := by omega
    by_cases hlt : m < ops.length
    · have hlt' : (m : Int) < (ops.length : Int) := by omega
      obtain ⟨pb, off, rfl, hrg⟩ := hopsH.out wr hR.out.hb m hlt
      have hdo : Hid (∀ W, Below wr.heap.size wr W → Calls Try.prog 27 #[.pointer (some ⟨M, 0, none⟩), .agg #[.int .i64 ops[m].kind, .int .i64 ops[m].a, .int .i64 ops[m].b, .int .i64 ops[m].c]] W fun e w' => ∃ gv, e = .returned (.agg #[.int .i64 (ansM (runM (newM mode) (ops.take m)) ops[m]).code, .int .i64 (ansM (runM (newM mode) (ops.take m)) ops[m]).n, .int .i64 (ansM (runM (newM mode) (ops.take m)) ops[m]).grey, gv]) ∧ OutAt W.heap.size w' gv (ansM (runM (newM mode) (ops.take m)) ops[m]).gone ∧ (∃ ps' fs' ov' tv', ImW w' (fun k => G k ∨ gv.ownBlock = some k) M (doM (runM (newM mode) (ops.take m)) ops[m]) ps' fs' ov' tv') ∧ Keep G W w') := fun W hW => doM_calls W G M _ ps fs ov tv ops[m] (hR.out.im.below hW) (hGd.out m)
      have hE : Hid (runM (newM mode) (ops.take (m + 1)) = doM (runM (newM mode) (ops.take m)) ops[m] ∧ ansL (newM mode) (ops.take (m + 1)) = ansL (newM mode) (ops.take m) ++ [ansM (runM (newM mode) (ops.take m)) ops[m]]) := by
        rw [ops_snoc hlt]
        exact ⟨runM_snoc _ _ _, ansL_snoc _ _ _⟩
      have hnx : Hid (∀ (W : World) (gv : Value) (ps' fs' : List Nat) (ov' tv' : Value), ImW W (fun k => G k ∨ gv.ownBlock = some k) M (doM (runM (newM mode) (ops.take m)) ops[m]) ps' fs' ov' tv' → Keep G wr W → OutAt wr.heap.size W gv (ansM (runM (newM mode) (ops.take m)) ops[m]).gone → W.there b (m * 4) 4 ∧ ∃ (G : Nat → Prop) (ps fs : List Nat) (ov tv : Value) (cut : Nat → Nat) (gs : List Value), RunM w0 (W.setCells b (m * 4) [.int .i64 (ansM (runM (newM mode) (ops.take m)) ops[m]).code, .int .i64 (ansM (runM (newM mode) (ops.take m)) ops[m]).n, .int .i64 (ansM (runM (newM mode) (ops.take m)) ops[m]).grey, gv]) M (runM (newM mode) (ops.take (m + 1))) b ops.length (m + 1) (ansL (newM mode) (ops.take (m + 1))) G ps fs ov tv cut gs) := fun W gv ps' fs' ov' tv' a1 a2 a3 => by
        rw [hE.out.1, hE.out.2]
        obtain ⟨q1, q2⟩ := hR.out.next hlt a1 a2 a3
        exact ⟨q1, _, _, _, _, _, _, _, q2⟩
      have hGsz : Hid (∀ k, G k → k < wr.heap.size) := hR.out.im.lo.2
      generalize ansM (runM (newM mode) (ops.take m)) ops[m] = an at *
      generalize doM (runM (newM mode) (ops.take m)) ops[m] = T at *
      have c0 : wr.cell? ⟨pb, off + m * 4, none⟩ = some (.int .i64 ops[m].kind) := hrg 0 _ rfl
      have c1 : wr.cell? ⟨pb, off + m * 4 + 1, none⟩ = some (.int .i64 ops[m].a) := hrg 1 _ rfl
      have c2 : wr.cell? ⟨pb, off + m * 4 + 2, none⟩ = some (.int .i64 ops[m].b) := hrg 2 _ rfl
      have c3 : wr.cell? ⟨pb, off + m * 4 + 3, none⟩ = some (.int .i64 ops[m].c) := hrg 3 _ rfl
      generalize ops[m] = op at *
      obtain ⟨okd, oka, okb, okc⟩ := op
      clear hE hR hrg
      simp only at c0 c1 c2 c3 hdo
      have hdo3 : Hid (Calls Try.prog 27 #[.pointer (some ⟨M, 0, none⟩), .agg #[.int .i64 okd, .int .i64 oka, .int .i64 okb, .int .i64 okc]] (wr.alloc (.cells #[.int .i64 okd, .int .i64 oka, .int .i64 okb, .int .i64 okc] 27)) fun e w' => ∃ R4 : List Value, e = .returned (.agg R4.toArray) ∧ R4.length = 4 ∧ R4.toArray.all (·.oneCell') = true ∧ w'.there b (m * 4) 4 ∧ ∃ (G : Nat → Prop) (ps fs : List Nat) (ov tv : Value) (cut : Nat → Nat) (gs : List Value), RunM w0 (w'.setCells b (m * 4) R4) M (runM (newM mode) (ops.take (m + 1))) b ops.length (m + 1) (ansL (newM mode) (ops.take (m + 1))) G ps fs ov tv cut gs) := by
        have hK1 : Keep G wr (wr.alloc (.cells #[.int .i64 okd, .int .i64 oka, .int .i64 okb, .int .i64 okc] 27)) := Keep.of (below_1 _ _) hGsz.out
        refine (hdo.out (wr.alloc (.cells #[.int .i64 okd, .int .i64 oka, .int .i64 okb, .int .i64 okc] 27)) (below_1 _ _)).mono ?_
        rintro e W3 ⟨gv, rfl, ho3, ⟨ps3, fs3, ov3, tv3, hI3⟩, hK3⟩
        obtain ⟨q1, q2⟩ := hnx.out W3 gv ps3 fs3 ov3 tv3 hI3 (hK1.trans hK3) (own_mono ho3 hK1.size)
        obtain ⟨ga, gc, rfl⟩ := own_slice ho3
        exact ⟨_, rfl, rfl, all_oneCell_toArray (by simp [Value.oneCell']), q1, q2⟩
      clear hdo hnx hGsz hGd hopsH
      go_wp2_with (first
        | (go_at_call 27; refine (show Calls _ _ _ _ _ from hdo3.out).mono ?_; rintro e W3 ⟨R4, rfl, hr4, hone, hth, hrun⟩; have hr4H : Hid (R4.length = 4) := hr4; have honeH : Hid _ := hone; have hthH : Hid (W3.there b (m * 4) 4) := hth; have hrunH : Hid _ := hrun; clear hr4 hone hth hrun)
        | (refine wpList_store_mid rfl 33 _ _ rfl b (m * 4) R4.toArray (by first | rfl | (simp; done)) (by first | rfl | (simp; done)) (by simpa [hr4H.out] using hthH.out) (by simpa [hr4H.out] using hst.out) honeH.out ?_))
      go_roundw
      case rel => exact ⟨m + 1, by omega, by go_num, hrunH⟩
      case measure => simp [intOf]; omega
    · have hge : ¬ ((m : Int) < (ops.length : Int)) := by omega
      have hmE : m = ops.length := by omega
      subst hmE
      have hfin : Hid (∃ cut gs, AnsX w0.heap.size wr.heap.size wr (.slice (some ⟨b, 0, none⟩) ops.length ops.length) (ansL (newM mode) ops) b ops.length cut gs ∧ Below w0.heap.size w0 wr) := by
        have h1 := hR.out
        rw [List.take_length] at h1
        have hxl : (ansL (newM mode) ops).length = ops.length := ansL_length _ _
        refine ⟨cut, gs, ⟨by rw [hxl], ⟨h1.lo.1, h1.lo.2.1, by rw [hxl]; exact h1.lo.2.2, Nat.le_refl _⟩, fun j hj => h1.mono j (by rw [← hxl]; exact hj), by rw [hxl]; exact h1.room, h1.cells⟩, h1.hb⟩
      clear hR
      go_wp2
      go_ret
      obtain ⟨cut, gs, q1, q2⟩ := hfin.out
      first | exact ⟨b, cut, gs, rfl, q1, q2⟩ | exact ⟨b, rfl, ⟨cut, gs, q1⟩, q2⟩ | exact ⟨b, rfl, cut, ⟨gs, q1⟩, q2⟩
set_option maxRecDepth 100000 in
theorem markOk_calls (mode : Int) (a : Option Addr) (n c : Nat) (w : World) : Calls Try.prog 24 #[.int .i64 mode, .slice a n c] w fun e w' => e = .returned (.bool (runOk mode n)) ∧ w' = w := by
  obtain ⟨q, hq⟩ : ∃ q, q = runOk mode n := ⟨_, rfl⟩
  have hqH : Hid (q = runOk mode n) := hq
  rw [← hq]
  clear hq
  have hbt : Hid (Calls Try.prog 45 #[.int .i64 mode, .int .i64 1, .int .i64 2] w fun e w' => e = .returned (.bool (btw mode 1 2)) ∧ w' = w) := between_calls mode 1 2 w
  by_cases h1 : mode = 1 ∨ mode = 2
  · have hb : btw mode 1 2 = true := by simp [btw]; omega
    rw [hb] at hbt
    have hf : Hid (q = decide (n ≤ 500)) := by show q = _; rw [hqH.out]; simp [runOk, h1]
    clear h1 hb
    by_cases hn : n ≤ 500
    · have hn' : (n : Int) ≤ 500 := by omega
      go_enter Try.func24, Try.ntmps24
      go_wp2_with (go_at_call 45; refine (show Calls _ _ _ _ _ from hbt.out).mono ?_; rintro e w1 ⟨rfl, hw⟩; subst hw)
      go_ret
      exact ⟨by rw [hf.out]; first | (simp [hn]; done) | (simp; omega), rfl⟩
    · have hn' : ¬ (n : Int) ≤ 500 := by omega
      go_enter Try.func24, Try.ntmps24
      go_wp2_with (go_at_call 45; refine (show Calls _ _ _ _ _ from hbt.out).mono ?_; rintro e w1 ⟨rfl, hw⟩; subst hw)
      go_ret
      exact ⟨by rw [hf.out]; first | (simp [hn]; done) | (simp; omega), rfl⟩
  · have hb : btw mode 1 2 = false := by simp [btw]; omega
    rw [hb] at hbt
    have hf : Hid (q = false) := by show q = _; rw [hqH.out]; simp [runOk]; intro q; exact absurd q h1
    go_enter Try.func24, Try.ntmps24
    go_wp2_with (go_at_call 45; refine (show Calls _ _ _ _ _ from hbt.out).mono ?_; rintro e w1 ⟨rfl, hw⟩; subst hw)
    go_ret
    exact ⟨by rw [hf.out]; rfl, rfl⟩
/-- An answer of the program's: nothing, or a row that may be marked. -/
structure AnsO (lo hi : Nat) (w : World) (v : Value) (xs : List AnsM) : Prop where
  form : ∃ a c, v = .slice a xs.length c
  row : xs = [] ∨ ∃ b c cut gs, AnsX lo hi w v xs b c cut gs
theorem AnsO.ans {lo hi : Nat} {w : World} {v : Value} {xs : List AnsM} (h : AnsO lo hi w v xs) : AnsR lo hi w v xs := by
  rcases h.row with e | ⟨b, c, cut, gs, q⟩
  · exact ⟨h.form, fun j hj => by rw [e] at hj; simp at hj⟩
  · exact q.ans
set_option maxRecDepth 100000 in
set_option maxHeartbeats 1000000 in
theorem implRun_calls (w : World) (mode : Int) (ops : List OpM) (v : Value) (own : Bool) (lo hi : Nat) (h : ListAt MopR 4 own lo hi w v ops) (hh : hi ≤ w.heap.size) :
    Calls Try.prog 7 #[.int .i64 mode, v] w fun e w' => ∃ u, e = .returned u ∧ AnsO w.heap.size w'.heap.size w' u (ansRun mode ops) ∧ Below w.heap.size w w' := by
  obtain ⟨va, vc, rfl⟩ := h.form
  have hok : Hid (∀ W, Calls Try.prog 24 #[.int .i64 mode, .slice va ops.length vc] W fun e w' => e = .returned (.bool (runOk mode ops.length)) ∧ w' = W) := fun W => markOk_calls mode va ops.length vc W
  have hops : Hid (∀ W, Below w.heap.size w W → ∀ j (hj : j < ops.length), ∃ b off, va = some ⟨b, off, none⟩ ∧ W.rangeAt b (off + j * 4) [.int .i64 ops[j].kind, .int .i64 ops[j].a, .int .i64 ops[j].b, .int .i64 ops[j].c]) := fun W hW j hj => by
    obtain ⟨b, off, row, e, _, _, hr, hx⟩ := (h.kept MopR.stable (Nat.le_refl _) (Nat.le_refl _) ((Same.below hW).mono (Nat.zero_le _) hh)).at j hj
    have hx : row = _ := hx
    rw [hx] at hr
    exact ⟨b, off, e, hr⟩
  obtain ⟨q, hq⟩ : ∃ q, q = runOk mode ops.length := ⟨_, rfl⟩
  have hqH : Hid (q = runOk mode ops.length) := hq
  rw [← hq] at hok
  clear h hq
  cases q with
  | false =>
    have hA : Hid (ansRun mode ops = []) := by show _ = _; unfold ansRun; rw [← hqH.out]; rfl
    go_enter Try.func7, Try.ntmps7
    go_wp2_with (go_at_call 24; refine (show Calls _ _ _ _ _ from hok.out _).mono ?_; rintro e W1 ⟨rfl, hw⟩; subst hw)
    go_ret
    exact ⟨_, rfl, by rw [hA.out]; exact ⟨⟨_, _, rfl⟩, .inl rfl⟩, Below.refl _ _⟩
  | true =>
    have hA : Hid (ansRun mode ops = ansL (newM mode) ops ∧ (mode = 1 ∨ mode = 2) ∧ ops.length ≤ 500) := by
      have := hqH.out
      refine ⟨by unfold ansRun; rw [← this]; rfl, ?_⟩
      simp [runOk] at this
      exact this
    have hch : Hid (∀ (W : World) (M : Nat) (ov : Value), ImW W (fun k => k < w.heap.size) M (newM mode) [] [] ov (.slice none 0 0) → Below w.heap.size w W → Calls Try.prog 25 #[.slice va ops.length vc, .func (.func 27) #[.pointer (some ⟨M, 0, none⟩)] #[]] W fun e w' => ∃ u, e = .returned u ∧ AnsO w.heap.size w'.heap.size w' u (ansRun mode ops) ∧ Below w.heap.size w w') := fun W M ov hI hB => by
      refine (changedM_calls w W _ M mode ov _ ops va vc hI hB (fun k hk => hk) hA.out.2.1 hA.out.2.2 hops.out).mono ?_
      rintro e w' ⟨b, cut, gs, rfl, hX, hB2⟩
      refine ⟨_, rfl, ?_, hB2⟩
      rw [hA.out.1]
      exact ⟨⟨_, _, by rw [ansL_length]⟩, .inr ⟨_, _, _, _, hX⟩⟩
    clear hops
    go_enter Try.func7, Try.ntmps7
    go_wp2_with (first
      | (go_at_call 24; refine (show Calls _ _ _ _ _ from hok.out _).mono ?_; rintro e W1 ⟨rfl, hw⟩; subst hw)
      | (go_at_call 26; refine (newM_calls _ mode).mono ?_; rintro e W2 ⟨M, ov, rfl, hI2, hB2⟩; have hI2H : Hid _ := hI2; have hB2H : Hid _ := hB2; clear hI2 hB2)
      | (go_at_call 25; refine (show Calls _ _ _ _ _ from hch.out W2 M ov hI2H.out hB2H.out).mono ?_; rintro e W3 ⟨u, rfl, hA3, hB3⟩; have hA3H : Hid _ := hA3; have hB3H : Hid _ := hB3; clear hA3 hB3))
    go_ret
    exact ⟨_, rfl, hA3H.out, hB3H.out⟩
end Go.Proofs.Ytcigiilhlealdaa
