/- The specification's run. -/
import Derived.Test.YtcigiilhlealdaaMrC
namespace Go.Proofs.Ytcigiilhlealdaa
set_option linter.unusedVariables false
open Go.ChangeShapes Go.WideShapes Go.ChangeAt Go.RowKit

theorem obs_info : ∃ i0 : TypeInfo, Try.prog.info? 33 = some i0 ∧ i0.zero = some (.agg #[.int .i64 0, .int .i64 0, .int .i64 0, .slice none 0 0]) ∧ i0.size = 4 ∧ i0.bytes = 48 := info_parts (show (Try.prog.info? 33).map (fun i => (i.zero, i.size, i.bytes)) = some (some (.agg #[.int .i64 0, .int .i64 0, .int .i64 0, .slice none 0 0]), 4, 48) by kernel_rfl)
theorem RunS.next {w wr W w3 : World} {H R : Nat} {s s' : StM} {out out' gv : Value} {xs : List AnsM} {x : AnsM} {G : Nat → Prop} {ps fs ps' fs' : List Nat} {ov qv ov' qv' : Value} {gs : List Value} {ob : Obj} (h : RunS w wr H R s out xs G ps fs ov qv gs)
    (hs : SpW W (fun k => G k ∨ gv.ownBlock = some k) H s' ps' fs' ov' R qv') (hk : Keep G wr W) (ho : OutAt wr.heap.size W gv x.gone)
    (hg : (W.alloc ob).grownBy w3 out.ownBlock) (hr : w3.ownsRow w.heap.size 33 4 out' (xs.length + 1) (ansC xs gs ++ [.int .i64 x.code, .int .i64 x.n, .int .i64 x.grey, gv])) (ha : out'.ownBlock = out.ownBlock ∨ out'.ownBlock = some (W.alloc ob).heap.size) :
    RunS w w3 H R s' out' (xs ++ [x]) (fun k => (G k ∨ gv.ownBlock = some k) ∨ out'.ownBlock = some k) ps' fs' ov' qv' (gs ++ [gv]) := by
  have s1 : (W.alloc ob).heap.size = W.heap.size + 1 := World.size_alloc _ _
  have s2 := hg.size
  have s3 := hk.size
  have s4 := h.hb.size
  have kp : ∀ k, k < W.heap.size → out.ownBlock ≠ some k → w3.heap[k]? = W.heap[k]? := fun k hk hq => by
    rw [hg.block k (by omega) (fun e => hq e.symm), Below.heap_alloc _ _ _ hk]
  have hout : ∀ k, out.ownBlock = some k → w.heap.size ≤ k ∧ k < wr.heap.size := fun k q => World.ownsRow.lt h.row k q
  have hnew : ∀ k, k < W.heap.size → out'.ownBlock = some k → out.ownBlock = some k := fun k hk q => by
    rcases ha with e | e
    · exact e.symm.trans q
    · rw [e] at q
      injection q with q
      omega
  have htag : ∀ k, out.ownBlock = some k → ∃ cur, W.heap[k]? = some (.cells cur 33 (0, 0)) := fun k q => by
    obtain ⟨cur, b⟩ := own_tag h.row q
    exact ⟨cur, (hk.block k (h.ro k q)).trans b⟩
  refine ⟨?_, ?_, fun k hk => .inl (.inl (h.low k hk)), ?_, fun k q => .inr q, ?_, fun g hgm k q => ?_⟩
  · refine hs.mv (fun k hkl hn => ⟨kp k hkl fun q => hn (.inl (h.ro k q)), fun q => ?_⟩) fun k q => ?_
    · rcases q with q | q
      · exact hn q
      · exact hn (.inl (h.ro k (hnew k hkl q)))
    · rcases q with q | q
      · have := hs.lo.2.2 k q
        omega
      · exact (World.ownsRow.lt hr k q).2
  · refine ⟨hg.os.trans (hk.os.trans h.hb.os), hg.tape.trans (hk.tape.trans h.hb.tape), hg.output.trans (hk.output.trans h.hb.output), by omega, fun k hkl => ?_⟩
    rw [kp k (by omega) (fun q => by have := hout k q; omega), hk.block k (h.low k hkl)]
    exact h.hb.block k hkl
  · rw [List.length_append, ansC_snoc _ _ _ _ h.go.1]
    exact hr
  · refine GoneL.snoc (h.go.kept fun g hgm k q => ?_) (own_mono (own_kept ho fun k q => ?_) s4)
    · have hG := h.gG g hgm k q
      have hkl : k < W.heap.size := by have := hs.lo.2.2 k (.inl hG); omega
      rw [kp k hkl, hk.block k hG]
      intro r
      obtain ⟨c1, b1⟩ := htag k r
      obtain ⟨j, hj, e⟩ := List.mem_iff_getElem.1 hgm
      obtain ⟨g', h1, h2⟩ := h.go.2 j (by rw [← h.go.1]; exact hj)
      rw [List.getElem?_eq_getElem hj, e] at h1
      injection h1 with h1
      subst h1
      obtain ⟨c2, b2⟩ := own_tag h2 q
      exact tag_ne b1 ((hk.block k hG).trans b2) (by decide) rfl
    · refine kp k (World.ownsRow.lt ho k q).2 fun r => ?_
      obtain ⟨c1, b1⟩ := htag k r
      obtain ⟨c2, b2⟩ := own_tag ho q
      exact tag_ne b1 b2 (by decide) rfl
  · rcases List.mem_append.1 hgm with hgm | hgm
    · exact .inl (.inl (h.gG g hgm k q))
    · have : g = gv := by simpa using hgm
      subst this
      exact .inl (.inr q)
set_option maxRecDepth 100000 in
theorem okS_calls (mode : Int) (a : Option Addr) (n c : Nat) (w : World) : Calls Try.prog 30 #[.int .i64 mode, .slice a n c] w fun e w' => e = .returned (.bool (runOk mode n)) ∧ w' = w := by
  obtain ⟨q, hq⟩ : ∃ q, q = runOk mode n := ⟨_, rfl⟩
  have hqH : Hid (q = runOk mode n) := hq
  rw [← hq]
  clear hq
  by_cases h1 : mode = 1
  · subst h1
    have hf : Hid (q = decide (n ≤ 500)) := by show q = _; rw [hqH.out]; simp [runOk]
    by_cases hn : n ≤ 500
    · have hn' : (n : Int) ≤ 500 := by omega
      go_enter Try.func30, Try.ntmps30
      go_wp2
      go_ret
      exact ⟨by rw [hf.out]; simp [hn], rfl⟩
    · have hn' : ¬ (n : Int) ≤ 500 := by omega
      go_enter Try.func30, Try.ntmps30
      go_wp2
      go_ret
      exact ⟨by rw [hf.out]; simp [hn], rfl⟩
  · by_cases h2 : mode = 2
    · subst h2
      have hf : Hid (q = decide (n ≤ 500)) := by show q = _; rw [hqH.out]; simp [runOk]
      by_cases hn : n ≤ 500
      · have hn' : (n : Int) ≤ 500 := by omega
        go_enter Try.func30, Try.ntmps30
        go_wp2
        go_ret
        exact ⟨by rw [hf.out]; simp [hn], rfl⟩
      · have hn' : ¬ (n : Int) ≤ 500 := by omega
        go_enter Try.func30, Try.ntmps30
        go_wp2
        go_ret
        exact ⟨by rw [hf.out]; simp [hn], rfl⟩
    · have hf : Hid (q = false) := by show q = _; rw [hqH.out]; simp [runOk, h1, h2]
      go_enter Try.func30, Try.ntmps30
      go_wp2
      go_ret
      exact ⟨by rw [hf.out]; first | rfl | simp [h1, h2], rfl⟩
set_option maxRecDepth 100000 in
set_option maxHeartbeats 2000000 in
theorem specRun_calls (w : World) (mode : Int) (ops : List OpM) (v : Value) (own : Bool) (lo hi : Nat) (h : ListAt MopR 4 own lo hi w v ops) (hh : hi ≤ w.heap.size) (hl : ops.length ≤ 1048576) :
    Calls Try.prog 9 #[.int .i64 mode, v] w fun e w' => ∃ u, e = .returned u ∧ AnsR w.heap.size w'.heap.size w' u (ansRun mode ops) ∧ Below w.heap.size w w' := by
  obtain ⟨va, vc, rfl⟩ := h.form
  have hok : Hid (∀ W, Calls Try.prog 30 #[.int .i64 mode, .slice va ops.length vc] W fun e w' => e = .returned (.bool (runOk mode ops.length)) ∧ w' = W) := fun W => okS_calls mode va ops.length vc W
  have hops : Hid (∀ W, Below w.heap.size w W → ∀ j (hj : j < ops.length), ∃ b off, va = some ⟨b, off, none⟩ ∧ W.rangeAt b (off + j * 4) [.int .i64 ops[j].kind, .int .i64 ops[j].a, .int .i64 ops[j].b, .int .i64 ops[j].c]) := fun W hW j hj => by
    obtain ⟨b, off, row, e, _, _, hr, hx⟩ := (h.kept MopR.stable (Nat.le_refl _) (Nat.le_refl _) ((Same.below hW).mono (Nat.zero_le _) hh)).at j hj
    have hx : row = _ := hx
    rw [hx] at hr
    exact ⟨b, off, e, hr⟩
  obtain ⟨q, hq⟩ : ∃ q, q = runOk mode ops.length := ⟨_, rfl⟩
  have hqH : Hid (q = runOk mode ops.length) := hq
  rw [← hq] at hok
  clear h hq
  have hl' : (ops.length : Int) ≤ 1048576 := by omega
  cases q with
  | false =>
    have hA : Hid (ansRun mode ops = []) := by show _ = _; unfold ansRun; rw [← hqH.out]; rfl
    go_enter Try.func9, Try.ntmps9
    go_wp2_with (go_at_call 30; refine (show Calls _ _ _ _ _ from hok.out _).mono ?_; rintro e W1 ⟨rfl, hw⟩; subst hw)
    go_ret
    exact ⟨_, rfl, by rw [hA.out]; exact ⟨⟨_, _, rfl⟩, fun j hj => by simp at hj⟩, below_1 _ _⟩
  | true =>
    have hA : Hid (ansRun mode ops = ansL (newM mode) ops ∧ (mode = 1 ∨ mode = 2) ∧ ops.length ≤ 500) := by
      have := hqH.out
      refine ⟨by unfold ansRun; rw [← this]; rfl, ?_⟩
      simp [runOk] at this
      exact this
    obtain ⟨i8, hi8, hz8, hs8, hb8⟩ := obs_info
    have hG : Hid (∀ m, GoodM (runM (newM mode) (ops.take m))) := fun m => (GoodM.new hA.out.2.1).run _
    go_enter Try.func9, Try.ntmps9
    go_wp2_with (first
      | (go_at_call 30; refine (show Calls _ _ _ _ _ from hok.out _).mono ?_; rintro e W1 ⟨rfl, hw⟩; subst hw)
      | (go_at_call 31; refine (newS_calls _ mode).mono ?_; rintro e W2 ⟨H, R, rfl, hS2, hB2⟩; have hS2H : Hid _ := hS2; have hB2H : Hid _ := hB2; clear hS2 hB2))
    have hstart : Hid (RunS w W2 H R (runM (newM mode) (ops.take 0)) (.slice (some ⟨w.heap.size, 0, none⟩) 0 0) (ansL (newM mode) (ops.take 0)) (fun k => k < (w.alloc (.cells #[] 33)).heap.size) [] [] (.slice none 0 0) (.slice none 0 0) []) := by
      have h1 : (w.alloc (.cells #[] 33)).heap.size = w.heap.size + 1 := World.size_alloc _ _
      refine ⟨hS2H.out, below_on2 (below_1 _ _) hB2H.out, fun k hk => by omega, ?_, fun k q => ?_, ⟨rfl, fun j hj => by simp [ansL] at hj⟩, fun g hg => by simp at hg⟩
      · exact own_kept (World.ownsRow_made w #[] 0 (Nat.le_refl _) (by unfold maxLen; omega) rfl) fun k q => hB2H.out.block k (by simp only [Value.ownBlock, Option.some.injEq] at q; omega)
      · simp only [Value.ownBlock, Option.some.injEq] at q
        omega
    clear hS2H hB2H
    go_loopw [5, 7] (fun ou iv wr => ∃ m : Nat, m ≤ ops.length ∧ iv = .int .i64 m ∧ Hid (∃ (G : Nat → Prop) (ps fs : List Nat) (ov qv : Value) (gs : List Value), RunS w wr H R (runM (newM mode) (ops.take m)) ou (ansL (newM mode) (ops.take m)) G ps fs ov qv gs)) (fun _ iv _ => ops.length - (intOf iv).toNat)
    case atStart => exact ⟨0, Nat.zero_le _, rfl, ⟨_, _, _, _, _, _, hstart.out⟩⟩
    case round =>
      clear hstart
      obtain ⟨m, hm, rfl, hrel⟩ := hrel
      obtain ⟨G, ps, fs, ov, qv, gs, hR0⟩ := hrel.out
      have hR : Hid _ := hR0
      obtain ⟨oa, oc, rfl⟩ := own_slice hR0.row
      clear hR0 hrel
      have hm0 : (0 : Int) ≤ m := by omega
      have hxl : (ansL (newM mode) (ops.take m)).length = m := by rw [ansL_length]; simp; omega
      by_cases hlt : m < ops.length
      · have hlt' : (m : Int) < (ops.length : Int) := by omega
        have hm5 : m < 500 := by have := hA.out.2.2; omega
        obtain ⟨b, off, rfl, hrg⟩ := hops.out wr hR.out.hb m hlt
        have hdo : Hid (Calls Try.prog 32 #[.pointer (some ⟨H, 0, none⟩), .agg #[.int .i64 ops[m].kind, .int .i64 ops[m].a, .int .i64 ops[m].b, .int .i64 ops[m].c]] wr fun e w' => ∃ gv, e = .returned (.agg #[.int .i64 (ansM (runM (newM mode) (ops.take m)) ops[m]).code, .int .i64 (ansM (runM (newM mode) (ops.take m)) ops[m]).n, .int .i64 (ansM (runM (newM mode) (ops.take m)) ops[m]).grey, gv]) ∧ OutAt wr.heap.size w' gv (ansM (runM (newM mode) (ops.take m)) ops[m]).gone ∧ (∃ ps' fs' ov' qv', SpW w' (fun k => G k ∨ gv.ownBlock = some k) H (doM (runM (newM mode) (ops.take m)) ops[m]) ps' fs' ov' R qv') ∧ Keep G wr w') := do_calls wr G H _ ps fs ov R qv ops[m] hR.out.sp (hG.out m)
        have hE : Hid (runM (newM mode) (ops.take (m + 1)) = doM (runM (newM mode) (ops.take m)) ops[m] ∧ ansL (newM mode) (ops.take (m + 1)) = ansL (newM mode) (ops.take m) ++ [ansM (runM (newM mode) (ops.take m)) ops[m]]) := by
          rw [ops_snoc hlt]
          exact ⟨runM_snoc _ _ _, ansL_snoc _ _ _⟩
        have hcl : Hid ((ansC (ansL (newM mode) (ops.take m)) gs).length = (ansL (newM mode) (ops.take m)).length * 4 ∧ ∀ u ∈ ansC (ansL (newM mode) (ops.take m)) gs, u.oneCell' = true) := ⟨ansC_length _ _ hR.out.go.1, ansC_one _ _ hR.out.go.one⟩
        have hnx : Hid (∀ (W w3 : World) (gv out' : Value) (ob : Obj) (ps' fs' : List Nat) (ov' qv' : Value), SpW W (fun k => G k ∨ gv.ownBlock = some k) H (doM (runM (newM mode) (ops.take m)) ops[m]) ps' fs' ov' R qv' → Keep G wr W → OutAt wr.heap.size W gv (ansM (runM (newM mode) (ops.take m)) ops[m]).gone → (W.alloc ob).grownBy w3 (Value.slice oa (ansL (newM mode) (ops.take m)).length oc).ownBlock → w3.ownsRow w.heap.size 33 4 out' ((ansL (newM mode) (ops.take m)).length + 1) (ansC (ansL (newM mode) (ops.take m)) gs ++ [.int .i64 (ansM (runM (newM mode) (ops.take m)) ops[m]).code, .int .i64 (ansM (runM (newM mode) (ops.take m)) ops[m]).n, .int .i64 (ansM (runM (newM mode) (ops.take m)) ops[m]).grey, gv]) → (out'.ownBlock = (Value.slice oa (ansL (newM mode) (ops.take m)).length oc).ownBlock ∨ out'.ownBlock = some (W.alloc ob).heap.size) → ∃ (G : Nat → Prop) (ps fs : List Nat) (ov qv : Value) (gs : List Value), RunS w w3 H R (runM (newM mode) (ops.take (m + 1))) out' (ansL (newM mode) (ops.take (m + 1))) G ps fs ov qv gs) := fun W w3 gv out' ob ps' fs' ov' qv' a1 a2 a3 a4 a5 a6 => by
          rw [hE.out.1, hE.out.2]
          exact ⟨_, _, _, _, _, _, hR.out.next a1 a2 a3 a4 a5 a6⟩
        have hrow : Hid (∀ W, Keep G wr W → W.ownsRow w.heap.size 33 4 (.slice oa (ansL (newM mode) (ops.take m)).length oc) (ansL (newM mode) (ops.take m)).length (ansC (ansL (newM mode) (ops.take m)) gs)) := fun W hK => own_kept hR.out.row fun k q => hK.block k (hR.out.ro k q)
        have hbs : Hid (w.heap.size ≤ wr.heap.size) := hR.out.hb.size
        have hGsz : Hid (∀ k, G k → k < wr.heap.size) := hR.out.sp.lo.2.2
        generalize hxe : ansL (newM mode) (ops.take m) = xs at *
        generalize ansM (runM (newM mode) (ops.take m)) ops[m] = an at *
        generalize doM (runM (newM mode) (ops.take m)) ops[m] = T at *
        generalize ansC xs gs = cs at *
        have c0 : wr.cell? ⟨b, off + m * 4, none⟩ = some (.int .i64 ops[m].kind) := hrg 0 _ rfl
        have c1 : wr.cell? ⟨b, off + m * 4 + 1, none⟩ = some (.int .i64 ops[m].a) := hrg 1 _ rfl
        have c2 : wr.cell? ⟨b, off + m * 4 + 2, none⟩ = some (.int .i64 ops[m].b) := hrg 2 _ rfl
        have c3 : wr.cell? ⟨b, off + m * 4 + 3, none⟩ = some (.int .i64 ops[m].c) := hrg 3 _ rfl
        generalize ops[m] = op at *
        obtain ⟨okd, oka, okb, okc⟩ := op
        have hxlH : Hid (xs.length = m) := hxl
        clear hxe hE hR hrg hxl hok hA hG
        simp only at c0 c1 c2 c3 hdo
        go_wp2_with (first
          | (go_at_call 32; refine (show Calls _ _ _ _ _ from hdo.out).mono ?_; rintro e W3 ⟨gv, rfl, ho3, ⟨ps3, fs3, ov3, qv3, hS3⟩, hK3⟩; have ho3H : Hid _ := ho3; have hS3H : Hid _ := hS3; have hK3H : Hid _ := hK3; obtain ⟨ga, gc, rfl⟩ := own_slice ho3; clear ho3 hS3 hK3; have hloA : Hid ((W3.alloc (.cells #[.int .i64 an.code, .int .i64 an.n, .int .i64 an.grey, .slice ga an.gone.length gc] 33)).ownsRow w.heap.size 33 4 (.slice oa xs.length oc) xs.length cs) := own_kept (hrow.out W3 hK3H.out) (fun k hk => Below.heap_alloc _ _ _ (World.ownsRow.lt (hrow.out W3 hK3H.out) k hk).2); have hsrcA : Hid (SrcAt (W3.alloc (.cells #[.int .i64 an.code, .int .i64 an.n, .int .i64 an.grey, .slice ga an.gone.length gc] 33)) 4 (.slice (some ⟨W3.heap.size, 0, none⟩) 1 1) 1 [.int .i64 an.code, .int .i64 an.n, .int .i64 an.grey, .slice ga an.gone.length gc]) := .inr ⟨⟨W3.heap.size, 0, none⟩, 1, rfl, rfl, fun j u hj => by rw [Addr.add_lit]; exact (rangeAt_heap (heap_alloc_new W3 (.cells #[.int .i64 an.code, .int .i64 an.n, .int .i64 an.grey, .slice ga an.gone.length gc] 33))) j u hj⟩; have hBs : Hid (w.heap.size ≤ (W3.alloc (.cells #[.int .i64 an.code, .int .i64 an.n, .int .i64 an.grey, .slice ga an.gone.length gc] 33)).heap.size) := (by have h1 := hbs.out; have h2 := hK3H.out.size; show _ ≤ _; rw [World.size_alloc]; omega))
          | (refine wpList_append_src rfl (.tmp 22) (.tmp 29) 24 rfl w.heap.size 33 i8 (.agg #[.int .i64 0, .int .i64 0, .int .i64 0, .slice none 0 0]) 4 48 Try.underlying24 hi8 hz8 hs8 hb8 rfl (by omega) _ xs.length cs rfl hloA.out _ 1 [.int .i64 an.code, .int .i64 an.n, .int .i64 an.grey, .slice ga an.gone.length gc] rfl hsrcA.out (by simp [Value.oneCell']) (by have := hxlH.out; unfold maxLen; omega) (by have := hxlH.out; omega) hBs.out (fun ou' w4 hown4 hgrow4 hat4 => ?_); have hfin : Hid _ := hnx.out W3 w4 _ ou' _ ps3 fs3 ov3 qv3 hS3H.out hK3H.out ho3H.out hgrow4 hown4 hat4; obtain ⟨oa', oc', rfl⟩ := own_slice hown4; clear hown4 hgrow4 hat4))
        go_roundw
        case rel => exact ⟨m + 1, by omega, by go_num, hfin⟩
        case measure => simp [intOf]; omega
      · have hge : ¬ ((m : Int) < (ops.length : Int)) := by omega
        have hfin : Hid (AnsR w.heap.size wr.heap.size wr (.slice oa m oc) (ansRun mode ops) ∧ Below w.heap.size w wr) := by
          have h1 := hR.out.ans
          rw [hxl, List.take_of_length_le (by omega)] at h1
          rw [hA.out.1]
          exact ⟨h1, hR.out.hb⟩
        clear hR
        go_wp2
        go_ret
        exact ⟨_, rfl, hfin.out.1, hfin.out.2⟩
end Go.Proofs.Ytcigiilhlealdaa
