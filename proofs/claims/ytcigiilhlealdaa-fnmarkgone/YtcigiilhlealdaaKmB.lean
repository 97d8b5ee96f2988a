/- The program's marker in memory: how it changes. -/
import Derived.Test.YtcigiilhlealdaaKmA
import Derived.Test.YtcigiilhlealdaaKsL
namespace Go.Proofs.Ytcigiilhlealdaa
set_option linter.unusedVariables false
open Go.ChangeShapes Go.WideShapes Go.ChangeAt Go.RowKit

theorem ImW.ltO {w : World} {F : Nat → Prop} {M : Nat} {s : StM} {ps fs : List Nat} {ov tv : Value} (h : ImW w F M s ps fs ov tv) {k : Nat} (q : ov.ownBlock = some k) : k < w.heap.size ∧ ∃ cur, w.heap[k]? = some (.cells cur 67 (0, 0)) := by
  obtain ⟨cur, b⟩ := own_tag h.ow q
  exact ⟨lt_of b, cur, b⟩
theorem ImW.ltT {w : World} {F : Nat → Prop} {M : Nat} {s : StM} {ps fs : List Nat} {ov tv : Value} (h : ImW w F M s ps fs ov tv) {k : Nat} (q : tv.ownBlock = some k) : k < w.heap.size ∧ ∃ cur, w.heap[k]? = some (.cells cur 67 (0, 0)) := by
  obtain ⟨cur, b⟩ := h.ro.tag q
  exact ⟨lt_of b, cur, b⟩
/-- What others have changes; what they have is another set. -/
theorem ImW.mv {w w' : World} {F G : Nat → Prop} {M : Nat} {s : StM} {ps fs : List Nat} {ov tv : Value} (h : ImW w F M s ps fs ov tv) (hk : ∀ k, k < w.heap.size → ¬ F k → w'.heap[k]? = w.heap[k]? ∧ ¬ G k) (hG : ∀ k, G k → k < w'.heap.size) : ImW w' G M s ps fs ov tv := by
  have ho : ∀ k, ov.ownBlock = some k → w'.heap[k]? = w.heap[k]? ∧ ¬ G k := fun k q => hk k (h.ltO q).1 (h.fo.1 k q)
  have hq : ∀ k, tv.ownBlock = some k → w'.heap[k]? = w.heap[k]? ∧ ¬ G k := fun k q => hk k (h.ltT q).1 (h.fo.2 k q)
  exact ⟨h.ob.mv fun k q => hk k (h.ob.lt q).1 (h.ob.lt q).2, (hk _ (lt_of h.blk) h.lo.1).1.trans h.blk, own_kept h.ow fun k q => (ho k q).1, h.ro.kept fun k q => (hq k q).1, h.ne, h.rl, ⟨(hk _ (lt_of h.blk) h.lo.1).2, hG⟩, ⟨fun k q => (ho k q).2, fun k q => (hq k q).2⟩⟩
theorem ImW.below {w w' : World} {F : Nat → Prop} {M : Nat} {s : StM} {ps fs : List Nat} {ov tv : Value} (h : ImW w F M s ps fs ov tv) (hb : Below w.heap.size w w') : ImW w' F M s ps fs ov tv := h.mv (fun k hk hn => ⟨hb.block k hk, hn⟩) fun k q => Nat.lt_of_lt_of_le (h.lo.2 k q) hb.size
theorem ImW.boxed {w : World} {F : Nat → Prop} {M : Nat} {s : StM} {ps fs : List Nat} {ov tv : Value} (h : ImW w F M s ps fs ov tv) (ob : Obj) : ImW (w.alloc ob) (fun k => F k ∨ k = w.heap.size) M s ps fs ov tv := h.mv (fun k hk hn => ⟨Below.heap_alloc _ _ _ hk, fun q => by
  rcases q with q | q
  · exact hn q
  · omega⟩) fun k q => by
  rw [World.size_alloc]
  rcases q with q | q
  · have := h.lo.2 k q; omega
  · omega
theorem ImW.unbox {w : World} {F G : Nat → Prop} {M : Nat} {s : StM} {ps fs : List Nat} {ov tv : Value} (h : ImW w G M s ps fs ov tv) (hG : ∀ k, F k → G k) : ImW w F M s ps fs ov tv := h.mv (fun k _ hn => ⟨rfl, fun q => hn (hG k q)⟩) fun k q => h.lo.2 k (hG k q)
/-- More is kept from it. -/
theorem ImW.fence {w : World} {F : Nat → Prop} {M : Nat} {s : StM} {ps fs : List Nat} {ov tv : Value} (h : ImW w F M s ps fs ov tv) (X : Nat → Prop) (hX : ∀ k, X k → k < w.heap.size) (h1 : ¬ X M) (h2 : ∀ p ∈ ps, ¬ X p) (h3 : ∀ f ∈ fs, ¬ X f) (h4 : ∀ k, ov.ownBlock = some k → ¬ X k) (h5 : ∀ k, tv.ownBlock = some k → ¬ X k) : ImW w (fun k => F k ∨ X k) M s ps fs ov tv :=
  ⟨h.ob.mv fun k q => ⟨rfl, fun r => by
      rcases r with r | r
      · exact (h.ob.lt q).2 r
      · rcases q with q | q
        · exact h2 k q r
        · exact h3 k q r⟩, h.blk, h.ow, h.ro, h.ne, h.rl, ⟨fun r => by
      rcases r with r | r
      · exact h.lo.1 r
      · exact h1 r, fun k q => by
      rcases q with q | q
      · exact h.lo.2 k q
      · exact hX k q⟩, ⟨fun k q r => by
      rcases r with r | r
      · exact h.fo.1 k q r
      · exact h4 k q r, fun k q r => by
      rcases r with r | r
      · exact h.fo.2 k q r
      · exact h5 k q r⟩⟩
/-- Only the marker's own block changes. -/
theorem ImW.head {w : World} {F : Nat → Prop} {M : Nat} {s t : StM} {ps fs : List Nat} {ov tv tv' : Value} (h : ImW w F M s ps fs ov tv) (j : Nat) (v : Value) (ho : t.obs = s.obs) (hr : t.roots.length = 8) (hc : (mkC s ov tv).setIfInBounds j v = mkC t ov tv') (hq : QAt w 67 tv' (rowP ps t.row)) (hn : ∀ k, tv'.ownBlock = some k → tv.ownBlock = some k) : ImW (w.setCell ⟨M, j, none⟩ v) F M t ps fs ov tv' := by
  have hM : ∀ k cs ty, w.heap[k]? = some (.cells cs ty (0, 0)) → ty ≠ 82 → k ≠ M := fun k cs ty b c => tag_ne b h.blk c
  refine ⟨?_, ?_, ?_, hq.kept fun k q => ?_, fun k q r => h.ne k q (hn k r), hr, ⟨h.lo.1, fun k q => by have := h.lo.2 k q; simpa [World.setCell] using this⟩, ⟨h.fo.1, fun k q => h.fo.2 k (hn k q)⟩⟩
  · rw [ho]
    exact h.ob.kept fun k cs ty b c => set_other _ (hM k cs ty b (by rcases c with c | c; rw [c]; decide; rw [c.1]; decide))
  · rw [set_same _ h.blk, hc]
  · rw [ho]
    exact own_kept h.ow fun k q => by
      obtain ⟨_, cur, b⟩ := h.ltO q
      exact set_other _ (hM k cur 67 b (by decide))
  · obtain ⟨_, cur, b⟩ := h.ltT (hn k q)
    exact set_other _ (hM k cur 67 b (by decide))
theorem ImW.flag {w : World} {F : Nat → Prop} {M : Nat} {s : StM} {ps fs : List Nat} {ov tv : Value} (h : ImW w F M s ps fs ov tv) (b : Bool) : ImW (w.setCell ⟨M, 10, none⟩ (.bool b)) F M { s with cyc := b } ps fs ov tv ∧ Keep F w (w.setCell ⟨M, 10, none⟩ (.bool b)) := by
  obtain ⟨r0, r1, r2, r3, r4, r5, r6, r7, e⟩ := roots8 h.rl
  exact ⟨h.head 10 _ rfl h.rl (by simp [mkC, e, intsV]) h.ro fun k q => q, (Keep.refl _ _).setCell (p := ⟨M, 10, none⟩) h.lo.1 _⟩
theorem ImW.setRoot {w : World} {F : Nat → Prop} {M : Nat} {s : StM} {ps fs : List Nat} {ov tv : Value} (h : ImW w F M s ps fs ov tv) (a : Nat) (ha : a < 8) (z : Int) : ImW (w.setCell ⟨M, 2 + a, none⟩ (.int .i64 z)) F M (setR s a z) ps fs ov tv ∧ Keep F w (w.setCell ⟨M, 2 + a, none⟩ (.int .i64 z)) := by
  refine ⟨h.head (2 + a) _ rfl (by simp [setR, h.rl]) ?_ h.ro fun k q => q, (Keep.refl _ _).setCell (p := ⟨M, 2 + a, none⟩) h.lo.1 _⟩
  obtain ⟨r0, r1, r2, r3, r4, r5, r6, r7, e⟩ := roots8 h.rl
  have hcases : a = 0 ∨ a = 1 ∨ a = 2 ∨ a = 3 ∨ a = 4 ∨ a = 5 ∨ a = 6 ∨ a = 7 := by omega
  rcases hcases with rfl | rfl | rfl | rfl | rfl | rfl | rfl | rfl <;> simp [mkC, setR, e, intsV]
/-- The first of the row is taken. -/
theorem ImW.pop {w : World} {F : Nat → Prop} {M : Nat} {s : StM} {ps fs : List Nat} {ov tv tv' : Value} (h : ImW w F M s ps fs ov tv) {r : List Int} (hq : QAt w 67 tv' (rowP ps r)) (hn : ∀ k, tv'.ownBlock = some k → tv.ownBlock = some k) : ImW (w.setCell ⟨M, 11, none⟩ tv') F M { s with row := r } ps fs ov tv' ∧ Keep F w (w.setCell ⟨M, 11, none⟩ tv') := by
  obtain ⟨r0, r1, r2, r3, r4, r5, r6, r7, e⟩ := roots8 h.rl
  exact ⟨h.head 11 _ rfl h.rl (by simp [mkC, e, intsV]) hq hn, (Keep.refl _ _).setCell (p := ⟨M, 11, none⟩) h.lo.1 _⟩
theorem tabP_setCol (ps : List Nat) (obs : List ObM) (z c : Int) : tabP ps (setCol obs z c) = tabP ps obs := tabP_congr (setCol_length _ _ _) fun i => by
  unfold setCol
  rw [List.getElem?_modify]
  cases obs[i]? with
  | none => simp
  | some o => by_cases q : z.toNat - 1 = i <;> simp [q]
theorem tabP_setF (ps : List Nat) (obs : List ObM) (z c v : Int) : tabP ps (setF obs z c v) = tabP ps obs := tabP_congr (setF_length _ _ _ _) fun i => by
  unfold setF
  rw [List.getElem?_modify]
  cases obs[i]? with
  | none => simp
  | some o => by_cases q : z.toNat - 1 = i <;> simp [q]
theorem ImW.obj {w w' : World} {F : Nat → Prop} {M : Nat} {s t : StM} {ps fs : List Nat} {ov tv : Value} (h : ImW w F M s ps fs ov tv) (hs : t.mode = s.mode ∧ t.roots = s.roots ∧ t.cyc = s.cyc ∧ t.row = s.row) (hob : ObsAt w' F ps fs t.obs) (hl : t.obs.length = s.obs.length) (ht : tabP ps t.obs = tabP ps s.obs) (b : Nat) (hb : ∃ cs ty, w.heap[b]? = some (.cells cs ty (0, 0)) ∧ ty ≠ 82 ∧ ty ≠ 67) (hk : ∀ k, k ≠ b → w'.heap[k]? = w.heap[k]?) (hsz : w'.heap.size = w.heap.size) : ImW w' F M t ps fs ov tv := by
  obtain ⟨cs, ty, hb1, hb2, hb3⟩ := hb
  refine ⟨hob, ?_, ?_, ?_, h.ne, by rw [hs.2.1]; exact h.rl, ⟨h.lo.1, fun k q => by rw [hsz]; exact h.lo.2 k q⟩, h.fo⟩
  · rw [hk M (fun e => hb2 (by
      rw [← e] at hb1
      have := hb1.symm.trans h.blk
      simp only [Option.some.injEq, Obj.cells.injEq] at this
      exact this.2.1))]
    have := h.blk
    unfold mkC at this ⊢
    rw [hs.1, hs.2.1, hs.2.2.1]
    exact this
  · rw [hl, ht]
    refine own_kept h.ow fun k q => ?_
    obtain ⟨_, cur, c⟩ := h.ltO q
    exact hk k (tag_ne c hb1 (fun e => hb3 e.symm))
  · rw [hs.2.2.2]
    refine h.ro.kept fun k q => ?_
    obtain ⟨_, cur, c⟩ := h.ltT q
    exact hk k (tag_ne c hb1 (fun e => hb3 e.symm))
theorem mem_psM {w : World} {F : Nat → Prop} {ps fs : List Nat} {obs : List ObM} (h : ObsAt w F ps fs obs) {z : Int} {o : ObM} (hg : getM obs z = some o) : ps.getD (z.toNat - 1) 0 ∈ ps ∧ fs.getD (z.toNat - 1) 0 ∈ fs := by
  obtain ⟨_, h2, _⟩ := getM_some.1 hg
  have hzl := (List.getElem?_eq_some_iff.1 h2).1
  refine ⟨?_, ?_⟩
  · rw [List.getD_eq_getElem?_getD, List.getElem?_eq_getElem (by rw [h.lp]; exact hzl)]; exact List.getElem_mem _
  · rw [List.getD_eq_getElem?_getD, List.getElem?_eq_getElem (by rw [h.lf]; exact hzl)]; exact List.getElem_mem _
/-- One object gets another colour. -/
theorem ImW.colour {w : World} {F : Nat → Prop} {M : Nat} {s : StM} {ps fs : List Nat} {ov tv : Value} (h : ImW w F M s ps fs ov tv) {z : Int} {o : ObM} (hg : getM s.obs z = some o) (c : Int) : ImW (w.setCell ⟨ps.getD (z.toNat - 1) 0, 2, none⟩ (.int .i64 c)) F M { s with obs := setCol s.obs z c } ps fs ov tv ∧ Keep F w (w.setCell ⟨ps.getD (z.toNat - 1) 0, 2, none⟩ (.int .i64 c)) :=
  ⟨h.obj ⟨rfl, rfl, rfl, rfl⟩ (h.ob.colour hg c) (setCol_length _ _ _) (tabP_setCol _ _ _ _) (ps.getD (z.toNat - 1) 0) ⟨_, _, (h.ob.get hg).blk, by decide, by decide⟩ (fun k hk => set_other _ hk) (by simp [World.setCell]), (Keep.refl _ _).setCell (p := ⟨_, 2, none⟩) (h.ob.lo.1 _ (mem_psM h.ob hg).1) _⟩
theorem ImW.setFld {w : World} {F : Nat → Prop} {M : Nat} {s : StM} {ps fs : List Nat} {ov tv : Value} (h : ImW w F M s ps fs ov tv) {z : Int} {o : ObM} (hg : getM s.obs z = some o) (c : Nat) (v : Int) : ImW (w.setCell ⟨fs.getD (z.toNat - 1) 0, c, none⟩ (.int .i64 v)) F M { s with obs := setF s.obs z c v } ps fs ov tv ∧ Keep F w (w.setCell ⟨fs.getD (z.toNat - 1) 0, c, none⟩ (.int .i64 v)) :=
  ⟨h.obj ⟨rfl, rfl, rfl, rfl⟩ (h.ob.field hg c v) (setF_length _ _ _ _) (tabP_setF _ _ _ _ _) (fs.getD (z.toNat - 1) 0) ⟨_, _, (h.ob.get hg).row, by decide, by decide⟩ (fun k hk => set_other _ hk) (by simp [World.setCell]), (Keep.refl _ _).setCell (p := ⟨_, c, none⟩) (h.ob.lo.2 _ (mem_psM h.ob hg).2) _⟩
/-- The row grows. -/
theorem ImW.push {w w3 : World} {F : Nat → Prop} {M : Nat} {s : StM} {ps fs : List Nat} {ov tv tv' : Value} {z : Int} {o : Obj} (h : ImW w F M s ps fs ov tv) (hg : (w.alloc o).grownBy w3 tv.ownBlock) (hq : QAt w3 67 tv' (rowP ps s.row ++ [.pointer (some ⟨ps.getD (z.toNat - 1) 0, 0, none⟩)])) (ha : tv'.ownBlock = tv.ownBlock ∨ ∃ b, tv'.ownBlock = some b ∧ (w.alloc o).heap.size ≤ b) :
    ImW (w3.setCell ⟨M, 11, none⟩ tv') F M { s with row := s.row ++ [z] } ps fs ov tv' ∧ Keep F w (w3.setCell ⟨M, 11, none⟩ tv') ∧ w3.cell? ⟨M, 11, none⟩ = some tv ∧ w3.frozen? ⟨M, 11, none⟩ = false := by
  have s1 : (w.alloc o).heap.size = w.heap.size + 1 := World.size_alloc _ _
  have s2 := hg.size
  have kp : ∀ k, k < w.heap.size → tv.ownBlock ≠ some k → w3.heap[k]? = w.heap[k]? := fun k hk hq => by
    rw [hg.block k (by omega) (fun e => hq e.symm), Below.heap_alloc _ _ _ hk]
  have hnew : ∀ k, k < w.heap.size → tv'.ownBlock = some k → tv.ownBlock = some k := fun k hk q => by
    rcases ha with e | ⟨b, e, hb⟩
    · exact e.symm.trans q
    · rw [e] at q
      injection q with q
      omega
  have hm : w3.heap[M]? = w.heap[M]? := kp M (lt_of h.blk) fun q => by
    obtain ⟨_, cur, b⟩ := h.ltT q
    exact tag_ne b h.blk (by decide) rfl
  -- the world with the new row, the marker's own cell as it was
  have h3 : ImW (w3.setCell ⟨M, 11, none⟩ tv') F M { s with row := s.row ++ [z] } ps fs ov tv' := by
    obtain ⟨r0, r1, r2, r3, r4, r5, r6, r7, e⟩ := roots8 h.rl
    have hM : ∀ k, k ≠ M → (w3.setCell ⟨M, 11, none⟩ tv').heap[k]? = w3.heap[k]? := fun k hk => set_other _ hk
    refine ⟨h.ob.kept fun k cs ty b c => ?_, ?_, own_kept h.ow fun k q => ?_, ?_, fun k q r => ?_, h.rl, ⟨h.lo.1, fun k q => by have := h.lo.2 k q; simp [World.setCell]; omega⟩, ⟨h.fo.1, fun k q r => ?_⟩⟩
    · rw [hM k (tag_ne b h.blk (by rcases c with c | c; rw [c]; decide; rw [c.1]; decide))]
      refine kp k (lt_of b) fun q => ?_
      obtain ⟨_, cur, d⟩ := h.ltT q
      exact tag_ne d b (by rcases c with c | c; rw [c]; decide; rw [c.1]; decide) rfl
    · rw [set_same _ (hm.trans h.blk)]
      congr 2
      simp [mkC, e, intsV]
    · obtain ⟨hl, cur, b⟩ := h.ltO q
      rw [hM k (tag_ne b h.blk (by decide))]
      exact kp k hl (h.ne k q)
    · show QAt _ 67 tv' (rowP ps (s.row ++ [z]))
      rw [show rowP ps (s.row ++ [z]) = rowP ps s.row ++ [.pointer (some ⟨ps.getD (z.toNat - 1) 0, 0, none⟩)] by simp [rowP]]
      refine hq.kept fun k q => hM k fun e => ?_
      obtain ⟨cur, b⟩ := hq.tag q
      exact tag_ne b (hm.trans h.blk) (by decide) e
    · exact h.ne k q (hnew k (h.ltO q).1 r)
    · exact h.fo.2 k (hnew k (h.lo.2 k r) q) r
  have hm11 := h.mode.2.2.2.1
  refine ⟨h3, ⟨hg.os, hg.tape, hg.output, by simp [World.setCell]; omega, fun k hk => ?_⟩, (World.cell?_of_block (w := w) hm).trans hm11, (World.frozen?_of_block (w := w) hm).trans (h.mode.2.2.2.2.2 11)⟩
  rw [set_other _ (fun e => h.lo.1 (by rw [← e]; exact hk))]
  exact kp k (h.lo.2 k hk) fun q => h.fo.2 k q hk
end Go.Proofs.Ytcigiilhlealdaa
