/- The program's heap behind ops. -/
import Derived.Test.YtchcdlelaklnnaaMtA
import Derived.Test.YtchcdlelaklnnaaMrF
namespace Go.Proofs.Ytchcdlelaklnnaa
set_option linter.unusedVariables false
open Go.ChangeShapes Go.WideShapes Go.ChangeAt Go.RowKit

/-- A heap as it is told. -/
structure HpM where
  os : List ObP
  rs : List Int
  cyc : Bool
  qs : List Int
def hpOf (s : StM) : HpM := ⟨obsP s.obs, s.roots, s.cyc, s.row⟩
def atM (mode : Int) (ops : List OpM) : HpM := if runOk mode ops.length then hpOf (runM (newM mode) ops) else ⟨[], [], false, []⟩
/-- A heap that the program gave: nothing, or one whose rows lie apart. -/
def HpO (lo hi : Nat) (w : World) (o r q : Value) (x : HpM) : Prop :=
  (x.os = [] ∧ x.rs = [] ∧ x.qs = [] ∧ o = .slice none 0 0 ∧ r = .slice none 0 0 ∧ q = .slice none 0 0) ∨ ∃ b c gs m1 m2, o = .slice (some ⟨b, 0, none⟩) x.os.length c ∧ HpX lo m1 m2 hi w o r q x.os x.rs x.qs b c gs ∧ FldF w.heap.size gs
theorem HpO.kept {lo hi : Nat} {w w' : World} {o r q : Value} {x : HpM} (h : HpO lo hi w o r q x) (hs : Same lo hi w w') (hz : w.heap.size ≤ w'.heap.size) : HpO lo hi w' o r q x := by
  rcases h with h | ⟨b, c, gs, m1, m2, e, h, hf⟩
  · exact .inl h
  · exact .inr ⟨b, c, gs, m1, m2, e, h.kept hs hz, fun j g hg => by
      obtain ⟨f, n, h1, h2⟩ := hf j g hg
      exact ⟨f, n, by omega, h2⟩⟩
theorem HpO.read {lo hi : Nat} {w : World} {o r q : Value} {x : HpM} (h : HpO lo hi w o r q x) : HpR lo hi w o r q x.os x.rs x.qs := by
  rcases h with ⟨a1, a2, a3, rfl, rfl, rfl⟩ | ⟨b, c, gs, m1, m2, e, h, _⟩
  · rw [a1, a2, a3]
    exact ⟨⟨⟨_, _, rfl⟩, fun j hj => by simp at hj⟩, .inl ⟨rfl, _, _, rfl⟩, .inl ⟨rfl, _, _, rfl⟩⟩
  · exact h.read
theorem ObjX.mono {lo hi lo' hi' : Nat} {w : World} {v : Value} {xs : List ObP} {b c : Nat} {gs : List Value} (h : ObjX lo hi w v xs b c gs) (h1 : lo' ≤ lo) (h2 : hi ≤ hi') (h3 : hi' ≤ w.heap.size) : ObjX lo' hi' w v xs b c gs :=
  ⟨h.form, by have := h.bd; omega, h.room, h.nb, h.apart, fun j hj => by
    obtain ⟨g, e, r, q⟩ := h.cells j hj
    exact ⟨g, e, r, q.mono h1 h2⟩⟩
theorem HpX.mono {lo m1 m2 hi lo' hi' : Nat} {w : World} {ov rv qv : Value} {os : List ObP} {rs qs : List Int} {b c : Nat} {gs : List Value} (h : HpX lo m1 m2 hi w ov rv qv os rs qs b c gs) (h1 : lo' ≤ lo) (h2 : hi ≤ hi') (h3 : hi' ≤ w.heap.size) : HpX lo' m1 m2 hi' w ov rv qv os rs qs b c gs := by
  have n := h.n
  exact ⟨by omega, h.o.mono h1 (Nat.le_refl _) (by omega), h.r, h.q.mono (Nat.le_refl _) h2⟩
theorem AtSet {w W : World} {bx : Nat} {cs : Array Value} (hb : Below w.heap.size w W) (hx : w.heap.size ≤ bx) : Below w.heap.size w (W.setRow bx cs) :=
  ⟨hb.os, hb.tape, hb.output, by rw [setRow_size]; exact hb.size, fun k hk => (setRow_other _ _ _ _ (by omega)).trans (hb.block k hk)⟩
theorem SameSet {W : World} {bx lo hi : Nat} {cs : Array Value} (h : bx < lo ∨ hi ≤ bx) : Same lo hi W (W.setRow bx cs) := fun p h1 h2 =>
  ⟨World.cell?_of_block (w := W) (setRow_other _ _ _ _ (by omega)), World.frozen?_of_block (w := W) (setRow_other _ _ _ _ (by omega))⟩
/-- Where the program's run stands, its answer's box kept. -/
def RunI (w wr : World) (M : Nat) (s : StM) : Prop := (∃ ps fs ov tv, ImW wr (fun k => k < w.heap.size + 1) M s ps fs ov tv) ∧ Below w.heap.size w wr ∧ wr.heap[w.heap.size]? = some (.cells #[.slice none 0 0, .slice none 0 0, .bool false, .slice none 0 0] 34 (0, 0))
set_option maxRecDepth 100000 in
set_option maxHeartbeats 1000000 in
theorem implAt_calls (w : World) (mode : Int) (ops : List OpM) (v : Value) (own : Bool) (lo hi : Nat) (h : ListAt MopR 4 own lo hi w v ops) (hh : hi ≤ w.heap.size) :
    Calls Try.prog 7 #[.int .i64 mode, v] w fun e w' => ∃ o r q, e = .returned (.agg #[o, r, .bool (atM mode ops).cyc, q]) ∧ HpO w.heap.size w'.heap.size w' o r q (atM mode ops) ∧ Below w.heap.size w w' := by
  obtain ⟨va, vc, rfl⟩ := h.form
  have hok : Hid (∀ W, Calls Try.prog 12 #[.int .i64 mode, .slice va ops.length vc] W fun e w' => e = .returned (.bool (runOk mode ops.length)) ∧ w' = W) := fun W => markOk_calls mode va ops.length vc W
  have hops : Hid (∀ W, Below w.heap.size w W → ∀ j (hj : j < ops.length), ∃ b off, va = some ⟨b, off, none⟩ ∧ W.rangeAt b (off + j * 4) [.int .i64 ops[j].kind, .int .i64 ops[j].a, .int .i64 ops[j].b, .int .i64 ops[j].c]) := fun W hW j hj => by
    obtain ⟨b, off, row, e, _, _, hr, hx⟩ := (h.kept MopR.stable (Nat.le_refl _) (Nat.le_refl _) ((Same.below hW).mono (Nat.zero_le _) hh)).at j hj
    have hx : row = _ := hx
    rw [hx] at hr
    exact ⟨b, off, e, hr⟩
  obtain ⟨q, hq⟩ : ∃ q, q = runOk mode ops.length := ⟨_, rfl⟩
  have hqH : Hid (q = runOk mode ops.length) := hq
  rw [← hq] at hok
  obtain ⟨W0, hW0⟩ : ∃ W0, W0 = w.alloc (.cells #[.slice none 0 0, .slice none 0 0, .bool false, .slice none 0 0] 34) := ⟨_, rfl⟩
  have hB0 : Below w.heap.size w W0 := by rw [hW0]; exact below_1 _ _
  have hs0 : W0.heap.size = w.heap.size + 1 := by rw [hW0]; exact World.size_alloc _ _
  have hbx : W0.heap[w.heap.size]? = some (.cells #[.slice none 0 0, .slice none 0 0, .bool false, .slice none 0 0] 34 (0, 0)) := by rw [hW0]; exact heap_alloc_new w _
  clear h hq
  cases q with
  | false =>
    have hA : Hid (atM mode ops = ⟨[], [], false, []⟩) := by show _ = _; unfold atM; rw [← hqH.out]; rfl
    have hfin : Hid (Below w.heap.size w (W0.setRow w.heap.size #[.slice none 0 0, .slice none 0 0, .bool false, .slice none 0 0])) := AtSet hB0 (Nat.le_refl _)
    go_enter Try.func7, Try.ntmps7
    go_upto_region 1 with fail
    rw [← hW0]
    clear hW0
    go_wp2_with (first
      | (go_at_call 12; refine (show Calls _ _ _ _ _ from hok.out _).mono ?_; rintro e W1 ⟨rfl, hw⟩; subst hw)
      | (refine wpList_store_row rfl 34 _ _ rfl w.heap.size #[.slice none 0 0, .slice none 0 0, .bool false, .slice none 0 0] rfl rfl 34 _ hbx (by kernel_rfl) rfl (all_oneCell_toArray (cs := [.slice none 0 0, .slice none 0 0, .bool false, .slice none 0 0]) (by simp [Value.oneCell'])) ?_))
    (try simp only [Exit.inBlock, Exit.then])
    refine bodyPost_ret (v := .agg #[.slice none 0 0, .slice none 0 0, .bool false, .slice none 0 0]) (results_cell_row rfl _ _ w.heap.size 34 #[.slice none 0 0, .slice none 0 0, .bool false, .slice none 0 0] (0, 0) _ rfl (setRow_heap _ _ _ _ _ _ hbx) Try.underlying34 rfl (by kernel_rfl)) rfl ?_
    rw [hA.out]
    exact ⟨_, _, _, rfl, .inl ⟨rfl, rfl, rfl, rfl, rfl, rfl⟩, hfin.out⟩
  | true =>
    have hA : Hid (atM mode ops = hpOf (runM (newM mode) ops) ∧ (mode = 1 ∨ mode = 2) ∧ ops.length ≤ 500) := by
      have := hqH.out
      refine ⟨by unfold atM; rw [← this]; rfl, ?_⟩
      simp [runOk] at this
      exact this
    have hl' : (ops.length : Int) ≤ 500 := by have := hA.out.2.2; omega
    have hGd : Hid (∀ m, GoodM (runM (newM mode) (ops.take m))) := fun m => (GoodM.new hA.out.2.1).run _
    have hnw : Hid (Calls Try.prog 14 #[.int .i64 mode] W0 fun e w' => ∃ M, e = .returned (.pointer (some ⟨M, 0, none⟩)) ∧ RunI w w' M (runM (newM mode) (ops.take 0))) := (newM_calls W0 mode).mono fun e w' ⟨M, ov, he, hI, hB⟩ => ⟨M, he, ⟨_, _, _, _, by rw [hs0] at hI; exact hI⟩, below_on2 hB0 hB, (hB.block _ (by omega)).trans hbx⟩
    have hst : Hid (∀ (wr : World) (M m : Nat) (hm : m < ops.length), RunI w wr M (runM (newM mode) (ops.take m)) → ∀ ob : Obj, Calls Try.prog 15 #[.pointer (some ⟨M, 0, none⟩), opV ops[m]] (wr.alloc ob) fun e w' => ∃ v, e = .returned (.agg v) ∧ RunI w w' M (runM (newM mode) (ops.take (m + 1)))) := fun wr M m hm ⟨⟨ps, fs, ov, tv, hI⟩, hB, hx⟩ ob => by
      have hb1 := below_1 wr ob
      refine (doM_calls (wr.alloc ob) _ M _ ps fs ov tv ops[m] (hI.below hb1) (hGd.out m)).mono ?_
      rintro e w' ⟨gv, he, ho, ⟨ps', fs', ov', tv', hI'⟩, hK⟩
      refine ⟨_, he, ⟨ps', fs', ov', tv', ?_⟩, (hB.trans (hb1.mono hB.size)).trans (hK.to (B := w.heap.size) (fun k hk => by omega)), ?_⟩
      · rw [ops_snoc hm, runM_snoc]
        exact hI'.unbox fun k hk => .inl hk
      · exact (hK.block _ (by omega)).trans ((hb1.block _ (lt_of hx)).trans hx)
    have hhp : Hid (∀ (wr : World) (M : Nat), RunI w wr M (runM (newM mode) ops) → Calls Try.prog 17 #[.pointer (some ⟨M, 0, none⟩)] wr fun e w' => ∃ b r q, e = .returned (.agg #[.slice (some ⟨b, 0, none⟩) (atM mode ops).os.length (atM mode ops).os.length, r, .bool (atM mode ops).cyc, q]) ∧ (∃ ra rc, r = .slice ra (atM mode ops).rs.length rc) ∧ (∃ qa qc, q = .slice qa (atM mode ops).qs.length qc) ∧ w'.heap[w.heap.size]? = some (.cells #[.slice none 0 0, .slice none 0 0, .bool false, .slice none 0 0] 34 (0, 0)) ∧ ∀ W : World, W = w'.setRow w.heap.size #[.slice (some ⟨b, 0, none⟩) (atM mode ops).os.length (atM mode ops).os.length, r, .bool (atM mode ops).cyc, q] → HpO w.heap.size W.heap.size W (.slice (some ⟨b, 0, none⟩) (atM mode ops).os.length (atM mode ops).os.length) r q (atM mode ops) ∧ Below w.heap.size w W) := fun wr M ⟨⟨ps, fs, ov, tv, hI⟩, hB, hx⟩ => by
      have hg : GoodM (runM (newM mode) ops) := (GoodM.new hA.out.2.1).run _
      rw [hA.out.1]
      refine (heap_calls wr _ M _ ps fs ov tv (w.heap.size + 1) hI hg.inv hg.len (fun k hk => hk)).mono ?_
      rintro e w' ⟨r, q, b, gs, m1, m2, m3, he, hX, hfd, hb⟩
      refine ⟨b, r, q, he, hX.r.form, hX.q.form, (hb.block _ (lt_of hx)).trans hx, fun W hW => ?_⟩
      subst hW
      have hX2 := hX.kept (SameSet (W := w') (bx := w.heap.size) (cs := #[.slice (some ⟨b, 0, none⟩) (hpOf (runM (newM mode) ops)).os.length (hpOf (runM (newM mode) ops)).os.length, r, .bool (hpOf (runM (newM mode) ops)).cyc, q]) (.inl (by omega))) (by rw [setRow_size]; exact Nat.le_refl _)
      exact ⟨.inr ⟨b, _, gs, m1, m2, rfl, hX2.mono (by omega) hX2.n.2.2.2 (Nat.le_refl _), by rw [setRow_size]; exact hfd⟩, AtSet (hB.trans (hb.mono hB.size)) (Nat.le_refl _)⟩
    clear hqH hs0 hB0 hbx hA hGd
    go_enter Try.func7, Try.ntmps7
    go_upto_region 1 with fail
    rw [← hW0]
    clear hW0
    go_wp2_with (first
      | (go_at_call 12; refine (show Calls _ _ _ _ _ from hok.out _).mono ?_; rintro e W1 ⟨rfl, hw⟩; subst hw)
      | (go_at_call 14; refine (show Calls _ _ _ _ _ from hnw.out).mono ?_; rintro e W2 ⟨M, rfl, hR⟩; have hRH : Hid _ := hR; clear hR))
    clear hok hnw
    go_loopw [17] (fun i wr => ∃ m : Nat, m ≤ ops.length ∧ i = .int .i64 m ∧ Hid (RunI w wr M (runM (newM mode) (ops.take m)))) (fun i _ => ops.length - (intOf i).toNat)
    case atStart => exact ⟨0, Nat.zero_le _, rfl, hRH⟩
    case round =>
      clear hRH
      obtain ⟨m, hm, rfl, hR⟩ := hrel
      have hm0 : (0 : Int) ≤ m := by omega
      by_cases hlt : m < ops.length
      · have hlt' : (m : Int) < (ops.length : Int) := by omega
        obtain ⟨b, off, rfl, hrg⟩ := hops.out wr hR.out.2.1 m hlt
        have hdo := hst.out wr M m hlt hR.out (.cells #[.int .i64 ops[m].kind, .int .i64 ops[m].a, .int .i64 ops[m].b, .int .i64 ops[m].c] 27)
        have c0 : wr.cell? ⟨b, off + m * 4, none⟩ = some (.int .i64 ops[m].kind) := hrg 0 _ rfl
        have c1 : wr.cell? ⟨b, off + m * 4 + 1, none⟩ = some (.int .i64 ops[m].a) := hrg 1 _ rfl
        have c2 : wr.cell? ⟨b, off + m * 4 + 2, none⟩ = some (.int .i64 ops[m].b) := hrg 2 _ rfl
        have c3 : wr.cell? ⟨b, off + m * 4 + 3, none⟩ = some (.int .i64 ops[m].c) := hrg 3 _ rfl
        unfold opV at hdo
        clear hrg hR hops hst hhp
        generalize ops[m] = op at *
        obtain ⟨okd, oka, okb, okc⟩ := op
        have hdoH : Hid _ := hdo
        clear hdo
        simp only at c0 c1 c2 c3 hdoH
        go_wp2_with (go_at_call 15; refine (show Calls _ _ _ _ _ from hdoH.out).mono ?_; rintro e W3 ⟨v3, rfl, hR3⟩; have hR3H : Hid _ := hR3; clear hR3)
        go_roundw
        case rel => exact ⟨m + 1, by omega, by go_num, hR3H⟩
        case measure => simp [intOf]; omega
      · have hge : ¬ ((m : Int) < (ops.length : Int)) := by omega
        have hmE : m = ops.length := by omega
        have hph : Hid _ := hhp.out wr M (by have := hR.out; rwa [hmE, List.take_length] at this)
        clear hR hops hst hhp
        go_wp2_with (first
          | (go_at_call 17; refine (show Calls _ _ _ _ _ from hph.out).mono ?_; rintro e W3 ⟨b, r, q, rfl, ⟨ra, rc, rfl⟩, ⟨qa, qc, rfl⟩, hb3, hf3⟩; have hf3H : Hid _ := hf3; clear hf3)
          | (refine wpList_store_row rfl 34 _ _ rfl w.heap.size #[.slice (some ⟨b, 0, none⟩) (atM mode ops).os.length (atM mode ops).os.length, .slice ra (atM mode ops).rs.length rc, .bool (atM mode ops).cyc, .slice qa (atM mode ops).qs.length qc] rfl rfl 34 _ hb3 (by kernel_rfl) rfl (all_oneCell_toArray (cs := [.slice (some ⟨b, 0, none⟩) (atM mode ops).os.length (atM mode ops).os.length, .slice ra (atM mode ops).rs.length rc, .bool (atM mode ops).cyc, .slice qa (atM mode ops).qs.length qc]) (by simp [Value.oneCell'])) ?_))
        (try simp only [Exit.inBlock, Exit.then])
        refine bodyPost_ret (v := .agg #[.slice (some ⟨b, 0, none⟩) (atM mode ops).os.length (atM mode ops).os.length, .slice ra (atM mode ops).rs.length rc, .bool (atM mode ops).cyc, .slice qa (atM mode ops).qs.length qc]) (results_cell_row rfl _ _ w.heap.size 34 #[.slice (some ⟨b, 0, none⟩) (atM mode ops).os.length (atM mode ops).os.length, .slice ra (atM mode ops).rs.length rc, .bool (atM mode ops).cyc, .slice qa (atM mode ops).qs.length qc] (0, 0) _ rfl (setRow_heap _ _ _ _ _ _ hb3) Try.underlying34 rfl (by kernel_rfl)) rfl ?_
        obtain ⟨f1, f2⟩ := hf3H.out _ rfl
        exact ⟨_, _, _, rfl, f1, f2⟩
end Go.Proofs.Ytchcdlelaklnnaa
