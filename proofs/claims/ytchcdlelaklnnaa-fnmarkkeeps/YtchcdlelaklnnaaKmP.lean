/- The program's marker: an op. -/
import Derived.Test.YtchcdlelaklnnaaKmO
import Derived.Laws.Tables
import Derived.Laws.Rows
namespace Go.Proofs.Ytchcdlelaklnnaa
set_option linter.unusedVariables false
open Go.ChangeShapes Go.WideShapes Go.ChangeAt Go.RowKit

theorem actAll_calls (w : World) (F : Nat → Prop) (M : Nat) (s : StM) (ps fs : List Nat) (ov tv : Value) (op : OpM) (h : ImW w F M s ps fs ov tv) (hgd : GoodM s) (hc : codeM s op = 0) :
    Calls Try.prog 28 #[.pointer (some ⟨M, 0, none⟩), opV op] w fun e w' => ∃ gv, e = .returned gv ∧ OutAt w.heap.size w' gv (ansM s op).gone ∧ (∃ ps' fs' ov' tv', ImW w' (fun k => F k ∨ gv.ownBlock = some k) M (doM s op) ps' fs' ov' tv') ∧ Keep F w w' := by
  obtain ⟨kind, a, b, c⟩ := op
  have hok := codeM_ok hc
  have hcd := hc
  unfold opV
  rcases okM_kinds hok with ⟨rfl, ⟨a, rfl, ha⟩, ⟨b, rfl, hb⟩, hlt⟩ | ⟨k2, ⟨a, rfl, ha⟩, ⟨b, rfl, hb⟩⟩ | ⟨rfl, ⟨a, rfl, ha⟩⟩ | ⟨rfl, ⟨a, rfl, ha⟩⟩ | rfl | rfl
  · have := act1_calls w F M s ps fs ov tv a b c h hgd ha hb hlt
    rwa [show doM s ⟨1, a, b, c⟩ = makeM s a b by simp [doM, hc, actM], goneOf (by show (1 : Int) ≠ 8; omega)]
  · rcases k2 with rfl | rfl | rfl
    · rw [code_2 hok] at hcd
      have := act2_calls w F M s ps fs ov tv a b c h hgd ha hb hcd
      rwa [show doM s ⟨2, a, b, c⟩ = setR s a (fieldM s (rootM s b) c) by simp [doM, hc, actM], goneOf (by show (2 : Int) ≠ 8; omega)]
    · rw [code_3 hok] at hcd
      have := act3_calls w F M s ps fs ov tv a b c h hgd ha hb hcd
      rwa [show doM s ⟨3, a, b, c⟩ = putM s (rootM s a) c (rootM s b) by simp [doM, hc, actM], goneOf (by show (3 : Int) ≠ 8; omega)]
    · have := act4_calls w F M s ps fs ov tv a b c h hgd ha hb
      rwa [show doM s ⟨4, a, b, c⟩ = setR s a (rootM s b) by simp [doM, hc, actM], goneOf (by show (4 : Int) ≠ 8; omega)]
  · have := act5_calls w F M s ps fs ov tv a b c h hgd ha
    rwa [show doM s ⟨5, a, b, c⟩ = setR s a 0 by simp [doM, hc, actM], goneOf (by show (5 : Int) ≠ 8; omega)]
  · have := act7_calls w F M s ps fs ov tv a b c h hgd ha
    rwa [show doM s ⟨7, a, b, c⟩ = StM.steps (a : Int).toNat s by simp [doM, hc, actM], goneOf (by show (7 : Int) ≠ 8; omega)]
  · have hcy : s.cyc = false := by
      unfold codeM at hcd
      rw [if_neg (by rw [hok]; simp), if_neg (by show ¬ (6 : Int) = 2; omega), if_neg (by show ¬ (6 : Int) = 3; omega)] at hcd
      cases q : s.cyc with
      | false => rfl
      | true => rw [if_pos ⟨by show (6 : Int) ≤ 6; omega, by rw [q]; rfl⟩] at hcd; omega
    have := act6_calls w F M s ps fs ov tv a b c h hgd hcy
    rwa [show doM s ⟨6, a, b, c⟩ = s.begin by simp [doM, hc, actM], goneOf (by show (6 : Int) ≠ 8; omega)]
  · have := act8_calls w F M s ps fs ov tv a b c h hgd
    rwa [show doM s ⟨8, a, b, c⟩ = s.fin by simp [doM, hc, actM], show (ansM s ⟨8, a, b, c⟩).gone = goneM s.drained.obs by simp [ansM, hc]]
/-- Where an op is being done: its box, the answer's two boxes. -/
structure DmS (w W : World) (F G : Nat → Prop) (M : Nat) (s : StM) (ps fs : List Nat) (ov tv : Value) (bx rb ob : Nat) (op : OpM) (out : Array Value) (gv : Value) : Prop where
  im : ImW W G M s ps fs ov tv
  kp : Keep F w W
  sub : ∀ k, F k → G k
  fl : ∀ k, F k → k < w.heap.size
  g0 : G bx
  g1 : G rb
  g2 : G ob
  nF : ¬ F rb ∧ ¬ F ob
  ne : rb ≠ ob
  go : ∀ k, gv.ownBlock = some k → G k
  b0 : W.heap[bx]? = some (.cells #[.int .i64 op.kind, .int .i64 op.a, .int .i64 op.b, .int .i64 op.c] 27 (0, 0))
  b1 : W.heap[rb]? = some (.cells #[.int .i64 0, .int .i64 0, .int .i64 0, .slice none 0 0] 43 (0, 0))
  b2 : W.heap[ob]? = some (.cells out 43 (0, 0))
theorem ImW.out {W : World} {G : Nat → Prop} {M : Nat} {s : StM} {ps fs : List Nat} {ov tv : Value} (h : ImW W G M s ps fs ov tv) {b : Nat} (hb : G b) (j : Nat) (v : Value) : ImW (W.setCell ⟨b, j, none⟩ v) G M s ps fs ov tv := h.mv (fun k _ hn => ⟨set_other _ (fun e => hn (by rw [e]; exact hb)), hn⟩) fun k q => by have := h.lo.2 k q; simpa [World.setCell] using this
theorem DmS.below {w W W' : World} {F G : Nat → Prop} {M : Nat} {s : StM} {ps fs : List Nat} {ov tv : Value} {bx rb ob : Nat} {op : OpM} {out : Array Value} {gv : Value} (h : DmS w W F G M s ps fs ov tv bx rb ob op out gv) (hb : Below W.heap.size W W') : DmS w W' F G M s ps fs ov tv bx rb ob op out gv :=
  ⟨h.im.below hb, h.kp.trans ((Keep.of hb h.im.lo.2).mono h.sub), h.sub, h.fl, h.g0, h.g1, h.g2, h.nF, h.ne, h.go, (hb.block _ (lt_of h.b0)).trans h.b0, (hb.block _ (lt_of h.b1)).trans h.b1, (hb.block _ (lt_of h.b2)).trans h.b2⟩
theorem DmS.set {w W : World} {F G : Nat → Prop} {M : Nat} {s : StM} {ps fs : List Nat} {ov tv : Value} {bx rb ob : Nat} {op : OpM} {out : Array Value} {gv : Value} (h : DmS w W F G M s ps fs ov tv bx rb ob op out gv) (j : Nat) (v : Value) : DmS w (W.setCell ⟨ob, j, none⟩ v) F G M s ps fs ov tv bx rb ob op (out.setIfInBounds j v) gv :=
  ⟨h.im.out h.g2 j v, h.kp.setCell (p := ⟨ob, j, none⟩) h.nF.2 v, h.sub, h.fl, h.g0, h.g1, h.g2, h.nF, h.ne, h.go, (set_other _ (tag_ne h.b0 h.b2 (by decide))).trans h.b0, (set_other _ h.ne).trans h.b1, set_same _ h.b2⟩
theorem DmS.gone {w W W' : World} {F G : Nat → Prop} {M : Nat} {s s' : StM} {ps fs ps' fs' : List Nat} {ov ov' tv tv' : Value} {bx rb ob : Nat} {op : OpM} {out : Array Value} {g0 gv : Value} (h : DmS w W F G M s ps fs ov tv bx rb ob op out g0) (hs : ImW W' (fun k => G k ∨ gv.ownBlock = some k) M s' ps' fs' ov' tv') (hk : Keep G W W') : DmS w W' F (fun k => G k ∨ gv.ownBlock = some k) M s' ps' fs' ov' tv' bx rb ob op out gv :=
  ⟨hs, h.kp.trans (hk.mono h.sub), fun k q => .inl (h.sub k q), h.fl, .inl h.g0, .inl h.g1, .inl h.g2, h.nF, h.ne, fun k q => .inr q, (hk.block _ h.g0).trans h.b0, (hk.block _ h.g1).trans h.b1, (hk.block _ h.g2).trans h.b2⟩
theorem DmS.start {w W2 : World} {F : Nat → Prop} {M : Nat} {s : StM} {ps fs : List Nat} {ov tv : Value} (h : ImW w F M s ps fs ov tv) (op : OpM) (hB : Below ((w.alloc (.cells #[.int .i64 op.kind, .int .i64 op.a, .int .i64 op.b, .int .i64 op.c] 27)).alloc (.cells #[.int .i64 0, .int .i64 0, .int .i64 0, .slice none 0 0] 43)).heap.size ((w.alloc (.cells #[.int .i64 op.kind, .int .i64 op.a, .int .i64 op.b, .int .i64 op.c] 27)).alloc (.cells #[.int .i64 0, .int .i64 0, .int .i64 0, .slice none 0 0] 43)) W2) (cd : Int) :
    DmS w (W2.alloc (.cells #[.int .i64 cd, .int .i64 0, .int .i64 0, .slice none 0 0] 43)) F (fun k => ((F k ∨ k = w.heap.size) ∨ k = w.heap.size + 1) ∨ k = W2.heap.size) M s ps fs ov tv w.heap.size (w.heap.size + 1) W2.heap.size op #[.int .i64 cd, .int .i64 0, .int .i64 0, .slice none 0 0] (.slice none 0 0) := by
  have h1 := h.boxed (.cells #[.int .i64 op.kind, .int .i64 op.a, .int .i64 op.b, .int .i64 op.c] 27)
  have h2 := h1.boxed (.cells #[.int .i64 0, .int .i64 0, .int .i64 0, .slice none 0 0] 43)
  rw [World.size_alloc] at h2
  have h3 := (h2.below hB).boxed (.cells #[.int .i64 cd, .int .i64 0, .int .i64 0, .slice none 0 0] 43)
  have hF := h.lo.2
  have hs := hB.size
  rw [World.size_alloc, World.size_alloc] at hs
  have hb : Below w.heap.size w (W2.alloc (.cells #[.int .i64 cd, .int .i64 0, .int .i64 0, .slice none 0 0] 43)) := below_on2 (below_1 _ _) (below_on2 (below_1 _ _) (below_on2 hB (below_1 _ _)))
  refine ⟨h3, Keep.of hb hF, fun k q => .inl (.inl (.inl q)), hF, .inl (.inl (.inr rfl)), .inl (.inr rfl), .inr rfl, ⟨fun q => by have := hF _ q; omega, fun q => by have := hF _ q; omega⟩, by omega, fun k q => by simp [Value.ownBlock] at q, ?_, ?_, heap_alloc_new _ _⟩
  · rw [Below.heap_alloc _ _ _ (by omega), hB.block _ (by rw [World.size_alloc, World.size_alloc]; omega), Below.heap_alloc _ _ _ (by rw [World.size_alloc]; omega)]
    exact heap_alloc_new _ _
  · rw [Below.heap_alloc _ _ _ (by omega), hB.block _ (by rw [World.size_alloc, World.size_alloc]; omega)]
    have := heap_alloc_new (w.alloc (.cells #[.int .i64 op.kind, .int .i64 op.a, .int .i64 op.b, .int .i64 op.c] 27)) (.cells #[.int .i64 0, .int .i64 0, .int .i64 0, .slice none 0 0] 43)
    rwa [World.size_alloc] at this
set_option maxRecDepth 100000 in
set_option maxHeartbeats 4000000 in
theorem doM_calls (w : World) (F : Nat → Prop) (M : Nat) (s : StM) (ps fs : List Nat) (ov tv : Value) (op : OpM) (h : ImW w F M s ps fs ov tv) (hgd : GoodM s) :
    Calls Try.prog 15 #[.pointer (some ⟨M, 0, none⟩), opV op] w fun e w' => ∃ gv, e = .returned (.agg #[.int .i64 (ansM s op).code, .int .i64 (ansM s op).n, .int .i64 (ansM s op).grey, gv]) ∧ OutAt w.heap.size w' gv (ansM s op).gone ∧ (∃ ps' fs' ov' tv', ImW w' (fun k => F k ∨ gv.ownBlock = some k) M (doM s op) ps' fs' ov' tv') ∧ Keep F w w' := by
  have hgH : Hid (GoodM s) := hgd
  have hH : Hid (ImW w F M s ps fs ov tv) := h
  have hstart : Hid (∀ (W2 : World) (cd : Int), _ → _) := fun W2 cd hB => DmS.start (W2 := W2) h op hB cd
  have hcode : Hid (∀ W, Below w.heap.size w W → Calls Try.prog 27 #[.pointer (some ⟨M, 0, none⟩), opV op] W fun e w' => e = .returned (.int .i64 (codeM s op)) ∧ Below W.heap.size W w') := fun W hB => codeOf_calls W F M s ps fs ov tv op (hH.out.below hB) hgH.out
  have hbw : Hid (Below w.heap.size w ((w.alloc (.cells #[.int .i64 op.kind, .int .i64 op.a, .int .i64 op.b, .int .i64 op.c] 27)).alloc (.cells #[.int .i64 0, .int .i64 0, .int .i64 0, .slice none 0 0] 43))) := below_on2 (below_1 _ _) (below_1 _ _)
  clear hgd h
  obtain ⟨kind, a, b, c⟩ := op
  unfold opV at hcode ⊢
  simp only at hcode hbw hstart ⊢
  go_enter Try.func15, Try.ntmps15
  go_upto_region 2 with (go_at_call 27; refine (show Calls _ _ _ _ _ from hcode.out _ hbw.out).mono ?_; rintro e W2 ⟨rfl, hB2⟩)
  have hD0 : Hid _ := hstart.out W2 (codeM s ⟨kind, a, b, c⟩) hB2
  clear hB2
  obtain ⟨W0, hW0⟩ : ∃ W0, W0 = W2.alloc (.cells #[.int .i64 (codeM s ⟨kind, a, b, c⟩), .int .i64 0, .int .i64 0, .slice none 0 0] 43) := ⟨_, rfl⟩
  try simp only at hD0
  rw [← hW0] at hD0 ⊢
  clear hW0 hstart hcode hbw
  generalize (fun k => ((F k ∨ k = w.heap.size) ∨ k = w.heap.size + 1) ∨ k = W2.heap.size) = G at hD0
  generalize W2.heap.size = ob at hD0 ⊢
  have hrb : ∃ rb, rb = w.heap.size + 1 := ⟨_, rfl⟩
  obtain ⟨rb, hrb⟩ := hrb
  rw [← hrb] at hD0 ⊢
  clear hrb
  have hbx : ∃ bx, bx = w.heap.size := ⟨_, rfl⟩
  obtain ⟨bx, hbx⟩ := hbx
  rw [← hbx] at hD0 ⊢
  clear hbx
  have hgd2 : Hid (GoodM (doM s ⟨kind, a, b, c⟩)) := hgH.out.do _
  have hact : Hid (∀ (W : World) (G : Nat → Prop), ImW W G M s ps fs ov tv → codeM s ⟨kind, a, b, c⟩ = 0 → Calls Try.prog 28 #[.pointer (some ⟨M, 0, none⟩), .agg #[.int .i64 kind, .int .i64 a, .int .i64 b, .int .i64 c]] W fun e w' => ∃ gv, e = .returned gv ∧ OutAt W.heap.size w' gv (ansM s ⟨kind, a, b, c⟩).gone ∧ (∃ ps' fs' ov' tv', ImW w' (fun k => G k ∨ gv.ownBlock = some k) M (doM s ⟨kind, a, b, c⟩) ps' fs' ov' tv') ∧ Keep G W w') := fun W G hW hc => actAll_calls W G M s ps fs ov tv ⟨kind, a, b, c⟩ hW hgH.out hc
  have han : Hid ((ansM s ⟨kind, a, b, c⟩).code = codeM s ⟨kind, a, b, c⟩ ∧ (ansM s ⟨kind, a, b, c⟩).n = (if codeM s ⟨kind, a, b, c⟩ = 0 ∧ kind < 6 then rootM (doM s ⟨kind, a, b, c⟩) a else 0) ∧ (ansM s ⟨kind, a, b, c⟩).grey = (doM s ⟨kind, a, b, c⟩).row.length) := ⟨rfl, rfl, rfl⟩
  have hbad : Hid (codeM s ⟨kind, a, b, c⟩ ≠ 0 → doM s ⟨kind, a, b, c⟩ = s ∧ (ansM s ⟨kind, a, b, c⟩).gone = []) := fun q => ⟨do_not q, gone_not0 q⟩
  have hra : Hid (codeM s ⟨kind, a, b, c⟩ = 0 → kind < 6 → ∃ m : Nat, a = m ∧ m < 8) := fun q1 q2 => by
    rcases okM_kinds (codeM_ok q1) with ⟨_, h, _⟩ | ⟨_, h, _⟩ | ⟨_, h⟩ | ⟨rfl, _⟩ | rfl | rfl
    · exact h
    · exact h
    · exact h
    · omega
    · omega
    · omega
  generalize hane : ansM s ⟨kind, a, b, c⟩ = an at *
  have hanE : Hid (ansM s ⟨kind, a, b, c⟩ = an) := hane
  generalize hTe : doM s ⟨kind, a, b, c⟩ = T at *
  have hTE : Hid (doM s ⟨kind, a, b, c⟩ = T) := hTe
  generalize hcd : codeM s ⟨kind, a, b, c⟩ = cd at *
  clear hane hTe hcd hH
  have x0 : W0.cell? ⟨bx, 0, none⟩ = some (.int .i64 kind) := cell_of hD0.out.b0 rfl
  have x1 : W0.cell? ⟨bx, 1, none⟩ = some (.int .i64 a) := cell_of hD0.out.b0 rfl
  have x2 : W0.cell? ⟨bx, 2, none⟩ = some (.int .i64 b) := cell_of hD0.out.b0 rfl
  have x3 : W0.cell? ⟨bx, 3, none⟩ = some (.int .i64 c) := cell_of hD0.out.b0 rfl
  have y0 : W0.cell? ⟨ob, 0, none⟩ = some (.int .i64 cd) := cell_of hD0.out.b2 rfl
  by_cases hc0 : cd = 0
  · have hc0H : Hid (cd = 0) := hc0
    rw [hc0] at y0
    have hac : Hid _ := hact.out W0 G hD0.out.im hc0
    clear hact hc0
    go_upto_region 4 with (go_at_call 28; refine (show Calls _ _ _ _ _ from hac.out).mono ?_; rintro e W1 ⟨gv, rfl, ho1, ⟨ps1, fs1, ov1, tv1, hI1⟩, hK1⟩; have hD1 : Hid _ := hD0.out.gone hI1 hK1; have ho1H : Hid _ := own_mono ho1 hD0.out.kp.size; have z3 : W1.cell? ⟨ob, 3, none⟩ = some (.slice none 0 0) := cell_of hD1.out.b2 rfl; have z3f : W1.frozen? ⟨ob, 3, none⟩ = false := free_of hD1.out.b2; obtain ⟨ga, gc, rfl⟩ := own_slice ho1; clear ho1 hI1 hK1)
    have hD2 : Hid _ := hD1.out.set 3 (.slice ga an.gone.length gc)
    have ho2 : Hid (OutAt w.heap.size (W1.setCell ⟨ob, 3, none⟩ (.slice ga an.gone.length gc)) (.slice ga an.gone.length gc) an.gone) := own_kept ho1H.out fun k q => by
      obtain ⟨cur, bq⟩ := own_tag ho1H.out q
      exact set_other _ (tag_ne bq hD1.out.b2 (by decide))
    clear hD1 ho1H z3 z3f hac x0 x1 x2 x3 y0 hD0
    generalize W1.setCell ⟨ob, 3, none⟩ (.slice ga an.gone.length gc) = W3 at hD2 ho2 ⊢
    generalize (fun k => G k ∨ (Value.slice ga an.gone.length gc).ownBlock = some k) = G2 at hD2
    have x0 : W3.cell? ⟨bx, 0, none⟩ = some (.int .i64 kind) := cell_of hD2.out.b0 rfl
    have x1 : W3.cell? ⟨bx, 1, none⟩ = some (.int .i64 a) := cell_of hD2.out.b0 rfl
    have y0 : W3.cell? ⟨ob, 0, none⟩ = some (.int .i64 0) := by rw [← hc0H.out]; exact cell_of hD2.out.b2 rfl
    by_cases hk : kind < 6
    · obtain ⟨m, rfl, hm⟩ := hra.out hc0H.out hk
      have hrl := hgd2.out.inv.rl
      have hnE : Hid (an.n = T.roots[m]'(by omega)) := by
        show _ = _
        rw [han.out.2.1, if_pos ⟨hc0H.out, hk⟩, rootM_nat hrl hm]
      have kR : W3.cell? ⟨M, 2 + m, none⟩ = some (.int .i64 an.n) := by rw [hnE.out]; exact hD2.out.im.mode.2.2.2.2.1 m hm
      have xo : W3.cell? ⟨ob, 1, none⟩ = some (.int .i64 0) := cell_of hD2.out.b2 rfl
      have xf : W3.frozen? ⟨ob, 1, none⟩ = false := free_of hD2.out.b2
      have hm8 : (m : Int) < 8 := by omega
      have hD3 : Hid _ := hD2.out.set 1 (.int .i64 an.n)
      have ho3 : Hid (OutAt w.heap.size (W3.setCell ⟨ob, 1, none⟩ (.int .i64 an.n)) (.slice ga an.gone.length gc) an.gone) := own_kept ho2.out fun k q => by
        obtain ⟨cur, bq⟩ := own_tag ho2.out q
        exact set_other _ (tag_ne bq hD2.out.b2 (by decide))
      clear hnE hD2 ho2 hra
      go_wp2_with fail
      go_still_tail 8, (by kernel_rfl)
      go_upto_region 6 with fail
      obtain ⟨W4, hW4⟩ : ∃ W4, W4 = (W3.setCell ⟨ob, 1, none⟩ (.int .i64 an.n)).drew := ⟨_, rfl⟩
      have hD4 : Hid (DmS w W4 F G2 M T ps1 fs1 ov1 tv1 bx rb ob ⟨kind, m, b, c⟩ #[.int .i64 cd, .int .i64 an.n, .int .i64 0, .slice ga an.gone.length gc] (.slice ga an.gone.length gc)) := by
        show DmS _ _ _ _ _ _ _ _ _ _ _ _ _ _ _ _
        rw [hW4]
        exact hD3.out.below (Below.drew (Below.refl _ _))
      have ho4 : Hid (OutAt w.heap.size W4 (.slice ga an.gone.length gc) an.gone) := by show OutAt _ _ _ _; rw [hW4]; exact ho3.out
      have hnn : Hid (an.n = an.n) := rfl
      have hfr : ∃ W5, W5 = W4 := ⟨_, rfl⟩
      first | rw [← hW4] | skip
      clear hW4 hD3 ho3 x0 x1 y0 xo xf kR
      have hrl4 : T.row.length ≤ 400 := by have h1 := hgd2.out.inv.rowlen; have h2 := hgd2.out.len; omega
      have hlen : Hid (Calls Try.prog 29 #[.pointer (some ⟨M, 11, none⟩)] W4 fun e w' => e = .returned (.int .i64 T.row.length) ∧ w' = W4) := length_calls W4 G2 M T ps1 fs1 ov1 tv1 hD4.out.im hrl4
      have u2 : W4.cell? ⟨ob, 2, none⟩ = some (.int .i64 0) := cell_of hD4.out.b2 rfl
      have u2f : W4.frozen? ⟨ob, 2, none⟩ = false := free_of hD4.out.b2
      have hD5 : Hid (DmS w (W4.setCell ⟨ob, 2, none⟩ (.int .i64 T.row.length)) F G2 M T ps1 fs1 ov1 tv1 bx rb ob _ #[.int .i64 cd, .int .i64 an.n, .int .i64 T.row.length, .slice ga an.gone.length gc] (.slice ga an.gone.length gc)) := hD4.out.set 2 _
      have ho5 : Hid (OutAt w.heap.size (W4.setCell ⟨ob, 2, none⟩ (.int .i64 T.row.length)) (.slice ga an.gone.length gc) an.gone) := own_kept ho4.out fun k q => by
        obtain ⟨cur, bq⟩ := own_tag ho4.out q
        exact set_other _ (tag_ne bq hD4.out.b2 (by decide))
      clear hD4 ho4
      go_upto_region 7 with (go_at_call 29; refine (show Calls _ _ _ _ _ from hlen.out).mono ?_; rintro e w1 ⟨rfl, hw⟩; subst hw)
      clear u2 u2f hlen
      generalize World.setCell _ ⟨ob, 2, none⟩ (.int .i64 T.row.length) = W5 at *
      have hB := hD5.out
      have hO := ho5.out
      clear hD5 ho5
      go_wp2_with (first
        | (refine wpList_load_row rfl 43 _ rfl ob rfl 43 _ _ _ hB.b2 Try.underlying43 rfl (by kernel_rfl) ?_)
        | (refine wpList_store_row rfl 43 _ _ rfl rb #[.int .i64 cd, .int .i64 an.n, .int .i64 T.row.length, .slice ga an.gone.length gc] rfl rfl 43 _ hB.b1 (by kernel_rfl) rfl (all_oneCell_toArray (cs := [.int .i64 cd, .int .i64 an.n, .int .i64 T.row.length, .slice ga an.gone.length gc]) (by simp [Value.oneCell'])) ?_))
      (try simp only [Exit.inBlock, Exit.then])
      refine bodyPost_ret (v := .agg #[.int .i64 cd, .int .i64 an.n, .int .i64 T.row.length, .slice ga an.gone.length gc]) (results_cell_row rfl _ _ rb 43 #[.int .i64 cd, .int .i64 an.n, .int .i64 T.row.length, .slice ga an.gone.length gc] (0, 0) _ rfl (setRow_heap _ _ _ _ _ _ hB.b1) Try.underlying43 rfl (by kernel_rfl)) rfl ?_
      rw [hanE.out, hTE.out]
      refine ⟨.slice ga an.gone.length gc, by rw [han.out.1, han.out.2.2], ?_, ⟨ps1, fs1, ov1, tv1, ?_⟩, ?_⟩
      · exact own_kept hO fun k q => by
          obtain ⟨cur, bq⟩ := own_tag hO q
          exact setRow_other _ _ _ _ (tag_ne bq hB.b1 (by decide))
      · refine hB.im.mv (fun k hk hn => ⟨setRow_other _ _ _ _ (fun e => hn (by rw [e]; exact hB.g1)), fun q => ?_⟩) fun k q => ?_
        · rcases q with q | q
          · exact hn (hB.sub k q)
          · exact hn (hB.go k q)
        · rw [setRow_size]
          rcases q with q | q
          · exact hB.im.lo.2 k (hB.sub k q)
          · exact hB.im.lo.2 k (hB.go k q)
      · exact hB.kp.trans ⟨rfl, rfl, rfl, by rw [setRow_size]; omega, fun k hk => setRow_other _ _ _ _ (fun e => hB.nF.1 (e ▸ hk))⟩
    · have hnE : Hid (an.n = 0) := by show _ = _; rw [han.out.2.1, if_neg (fun q => hk q.2)]
      clear hra
      go_upto_region 6 with fail
      have hD4 : Hid (DmS w W3 F G2 M T ps1 fs1 ov1 tv1 bx rb ob ⟨kind, a, b, c⟩ #[.int .i64 cd, .int .i64 an.n, .int .i64 0, .slice ga an.gone.length gc] (.slice ga an.gone.length gc)) := by
        show DmS _ _ _ _ _ _ _ _ _ _ _ _ _ _ _ _
        rw [hnE.out]
        exact hD2.out
      have ho4 : Hid _ := ho2
      clear hD2 ho2 x0 x1 y0
      generalize W3 = W4 at *
      have hrl4 : T.row.length ≤ 400 := by have h1 := hgd2.out.inv.rowlen; have h2 := hgd2.out.len; omega
      have hlen : Hid (Calls Try.prog 29 #[.pointer (some ⟨M, 11, none⟩)] W4 fun e w' => e = .returned (.int .i64 T.row.length) ∧ w' = W4) := length_calls W4 G2 M T ps1 fs1 ov1 tv1 hD4.out.im hrl4
      have u2 : W4.cell? ⟨ob, 2, none⟩ = some (.int .i64 0) := cell_of hD4.out.b2 rfl
      have u2f : W4.frozen? ⟨ob, 2, none⟩ = false := free_of hD4.out.b2
      have hD5 : Hid (DmS w (W4.setCell ⟨ob, 2, none⟩ (.int .i64 T.row.length)) F G2 M T ps1 fs1 ov1 tv1 bx rb ob _ #[.int .i64 cd, .int .i64 an.n, .int .i64 T.row.length, .slice ga an.gone.length gc] (.slice ga an.gone.length gc)) := hD4.out.set 2 _
      have ho5 : Hid (OutAt w.heap.size (W4.setCell ⟨ob, 2, none⟩ (.int .i64 T.row.length)) (.slice ga an.gone.length gc) an.gone) := own_kept ho4.out fun k q => by
        obtain ⟨cur, bq⟩ := own_tag ho4.out q
        exact set_other _ (tag_ne bq hD4.out.b2 (by decide))
      clear hD4 ho4
      go_upto_region 7 with (go_at_call 29; refine (show Calls _ _ _ _ _ from hlen.out).mono ?_; rintro e w1 ⟨rfl, hw⟩; subst hw)
      clear u2 u2f hlen
      generalize World.setCell _ ⟨ob, 2, none⟩ (.int .i64 T.row.length) = W5 at *
      have hB := hD5.out
      have hO := ho5.out
      clear hD5 ho5
      go_wp2_with (first
        | (refine wpList_load_row rfl 43 _ rfl ob rfl 43 _ _ _ hB.b2 Try.underlying43 rfl (by kernel_rfl) ?_)
        | (refine wpList_store_row rfl 43 _ _ rfl rb #[.int .i64 cd, .int .i64 an.n, .int .i64 T.row.length, .slice ga an.gone.length gc] rfl rfl 43 _ hB.b1 (by kernel_rfl) rfl (all_oneCell_toArray (cs := [.int .i64 cd, .int .i64 an.n, .int .i64 T.row.length, .slice ga an.gone.length gc]) (by simp [Value.oneCell'])) ?_))
      (try simp only [Exit.inBlock, Exit.then])
      refine bodyPost_ret (v := .agg #[.int .i64 cd, .int .i64 an.n, .int .i64 T.row.length, .slice ga an.gone.length gc]) (results_cell_row rfl _ _ rb 43 #[.int .i64 cd, .int .i64 an.n, .int .i64 T.row.length, .slice ga an.gone.length gc] (0, 0) _ rfl (setRow_heap _ _ _ _ _ _ hB.b1) Try.underlying43 rfl (by kernel_rfl)) rfl ?_
      rw [hanE.out, hTE.out]
      refine ⟨.slice ga an.gone.length gc, by rw [han.out.1, han.out.2.2], ?_, ⟨ps1, fs1, ov1, tv1, ?_⟩, ?_⟩
      · exact own_kept hO fun k q => by
          obtain ⟨cur, bq⟩ := own_tag hO q
          exact setRow_other _ _ _ _ (tag_ne bq hB.b1 (by decide))
      · refine hB.im.mv (fun k hk hn => ⟨setRow_other _ _ _ _ (fun e => hn (by rw [e]; exact hB.g1)), fun q => ?_⟩) fun k q => ?_
        · rcases q with q | q
          · exact hn (hB.sub k q)
          · exact hn (hB.go k q)
        · rw [setRow_size]
          rcases q with q | q
          · exact hB.im.lo.2 k (hB.sub k q)
          · exact hB.im.lo.2 k (hB.go k q)
      · exact hB.kp.trans ⟨rfl, rfl, rfl, by rw [setRow_size]; omega, fun k hk => setRow_other _ _ _ _ (fun e => hB.nF.1 (e ▸ hk))⟩
  · obtain ⟨hTs, hgn⟩ := hbad.out hc0
    have hnE : Hid (an.n = 0) := by show _ = _; rw [han.out.2.1, if_neg (fun q => hc0 q.1)]
    have hD4 : Hid (DmS w W0 F G M T ps fs ov tv bx rb ob ⟨kind, a, b, c⟩ #[.int .i64 cd, .int .i64 an.n, .int .i64 0, .slice none 0 0] (.slice none 0 0)) := by
      show DmS _ _ _ _ _ _ _ _ _ _ _ _ _ _ _ _
      rw [hnE.out, hTs]
      exact hD0.out
    have ho4 : Hid (OutAt w.heap.size W0 (.slice none 0 0) an.gone) := by show OutAt _ _ _ _; rw [hgn]; exact out_nil _ _
    clear hTs hgn hact hra
    go_upto_region 6 with fail
    clear hD0 x0 x1 x2 x3 y0 hc0
    generalize W0 = W4 at *
    have hrl4 : T.row.length ≤ 400 := by have h1 := hgd2.out.inv.rowlen; have h2 := hgd2.out.len; omega
    have hlen : Hid (Calls Try.prog 29 #[.pointer (some ⟨M, 11, none⟩)] W4 fun e w' => e = .returned (.int .i64 T.row.length) ∧ w' = W4) := length_calls W4 G M T ps fs ov tv hD4.out.im hrl4
    have u2 : W4.cell? ⟨ob, 2, none⟩ = some (.int .i64 0) := cell_of hD4.out.b2 rfl
    have u2f : W4.frozen? ⟨ob, 2, none⟩ = false := free_of hD4.out.b2
    have hD5 : Hid (DmS w (W4.setCell ⟨ob, 2, none⟩ (.int .i64 T.row.length)) F G M T ps fs ov tv bx rb ob _ #[.int .i64 cd, .int .i64 an.n, .int .i64 T.row.length, .slice none 0 0] (.slice none 0 0)) := hD4.out.set 2 _
    have ho5 : Hid (OutAt w.heap.size (W4.setCell ⟨ob, 2, none⟩ (.int .i64 T.row.length)) (.slice none 0 0) an.gone) := own_kept ho4.out fun k q => by
      obtain ⟨cur, bq⟩ := own_tag ho4.out q
      exact set_other _ (tag_ne bq hD4.out.b2 (by decide))
    clear hD4 ho4
    go_upto_region 7 with (go_at_call 29; refine (show Calls _ _ _ _ _ from hlen.out).mono ?_; rintro e w1 ⟨rfl, hw⟩; subst hw)
    clear u2 u2f hlen
    generalize World.setCell _ ⟨ob, 2, none⟩ (.int .i64 T.row.length) = W5 at *
    have hB := hD5.out
    have hO := ho5.out
    clear hD5 ho5
    go_wp2_with (first
      | (refine wpList_load_row rfl 43 _ rfl ob rfl 43 _ _ _ hB.b2 Try.underlying43 rfl (by kernel_rfl) ?_)
      | (refine wpList_store_row rfl 43 _ _ rfl rb #[.int .i64 cd, .int .i64 an.n, .int .i64 T.row.length, .slice none 0 0] rfl rfl 43 _ hB.b1 (by kernel_rfl) rfl (all_oneCell_toArray (cs := [.int .i64 cd, .int .i64 an.n, .int .i64 T.row.length, .slice none 0 0]) (by simp [Value.oneCell'])) ?_))
    (try simp only [Exit.inBlock, Exit.then])
    refine bodyPost_ret (v := .agg #[.int .i64 cd, .int .i64 an.n, .int .i64 T.row.length, .slice none 0 0]) (results_cell_row rfl _ _ rb 43 #[.int .i64 cd, .int .i64 an.n, .int .i64 T.row.length, .slice none 0 0] (0, 0) _ rfl (setRow_heap _ _ _ _ _ _ hB.b1) Try.underlying43 rfl (by kernel_rfl)) rfl ?_
    rw [hanE.out, hTE.out]
    refine ⟨.slice none 0 0, by rw [han.out.1, han.out.2.2], ?_, ⟨ps, fs, ov, tv, ?_⟩, ?_⟩
    · exact own_kept hO fun k q => by
        obtain ⟨cur, bq⟩ := own_tag hO q
        exact setRow_other _ _ _ _ (tag_ne bq hB.b1 (by decide))
    · refine hB.im.mv (fun k hk hn => ⟨setRow_other _ _ _ _ (fun e => hn (by rw [e]; exact hB.g1)), fun q => ?_⟩) fun k q => ?_
      · rcases q with q | q
        · exact hn (hB.sub k q)
        · exact hn (hB.go k q)
      · rw [setRow_size]
        rcases q with q | q
        · exact hB.im.lo.2 k (hB.sub k q)
        · exact hB.im.lo.2 k (hB.go k q)
    · exact hB.kp.trans ⟨rfl, rfl, rfl, by rw [setRow_size]; omega, fun k hk => setRow_other _ _ _ _ (fun e => hB.nF.1 (e ▸ hk))⟩
end Go.Proofs.Ytchcdlelaklnnaa
