/- The specification's heap: shading. -/
import Derived.Test.YtcigiilhlealdaaKsA
namespace Go.Proofs.Ytcigiilhlealdaa
set_option linter.unusedVariables false
open Go.ChangeShapes Go.WideShapes Go.ChangeAt Go.RowKit

theorem int_info : ∃ i0 : TypeInfo, Try.prog.info? 2 = some i0 ∧ i0.zero = some (.int .i64 0) ∧ i0.size = 1 ∧ i0.bytes = 8 := info_parts (show (Try.prog.info? 2).map (fun i => (i.zero, i.size, i.bytes)) = some (some (.int .i64 0), 1, 8) by kernel_rfl)
theorem own_tag {w : World} {B e size : Nat} {v : Value} {n : Nat} {xs : List Value} (h : w.ownsRow B e size v n xs) {k : Nat} (hk : v.ownBlock = some k) : ∃ cur, w.heap[k]? = some (.cells cur e (0, 0)) := by
  rcases h.2 with ⟨q, _⟩ | ⟨g, cap, cur, q, _, hm, _⟩
  · rw [q] at hk; simp [Value.ownBlock] at hk
  · rw [q] at hk
    simp only [Value.ownBlock, Option.some.injEq] at hk
    subst hk
    exact ⟨cur, hm⟩
theorem tag_ne {w : World} {a b t1 t2 : Nat} {c1 c2 : Array Value} (h1 : w.heap[a]? = some (.cells c1 t1 (0, 0))) (h2 : w.heap[b]? = some (.cells c2 t2 (0, 0))) (hn : t1 ≠ t2) : a ≠ b := fun q => by
  rw [q] at h1
  have := h1.symm.trans h2
  simp only [Option.some.injEq, Obj.cells.injEq] at this
  exact hn this.2.1
theorem lt_of {w : World} {a : Nat} {o : Obj} (h : w.heap[a]? = some o) : a < w.heap.size := (Array.getElem?_eq_some_iff.1 h).1
theorem therL_setCol (obs : List ObM) (z c : Int) : therL (setCol obs z c) = therL obs := by
  unfold therL
  rw [setCol_length]
  refine List.filter_congr fun i _ => ?_
  unfold setCol
  rw [List.getElem?_modify]
  cases obs[i]? with
  | none => rfl
  | some o => by_cases e : z.toNat - 1 = i <;> simp [e]
/-- The world changes elsewhere. -/
theorem SpW.kept {w w' : World} {F : Nat → Prop} {H R : Nat} {s : StM} {ps fs : List Nat} {ov qv : Value} (h : SpW w F H s ps fs ov R qv) (hk : ∀ k cs t, w.heap[k]? = some (.cells cs t (0, 0)) → (t = 62 ∨ t = 66 ∨ t = 67 ∨ k = R ∨ k ∈ fs ∨ qv.ownBlock = some k) → w'.heap[k]? = w.heap[k]?) (hs : w.heap.size ≤ w'.heap.size) : SpW w' F H s ps fs ov R qv := by
  refine ⟨h.ob.kept fun k cs t a b => hk k cs t a ?_, (hk _ _ _ h.blk (.inr (.inl rfl))).trans h.blk, own_kept h.ow fun k q => ?_, (hk _ _ _ h.rt (.inr (.inr (.inr (.inl rfl))))).trans h.rt, own_kept h.ro fun k q => ?_, h.n1, h.n2, h.n3, ⟨h.lo.1, h.lo.2.1, fun k q => Nat.lt_of_lt_of_le (h.lo.2.2 k q) hs⟩, h.fo⟩
  · rcases b with b | b
    · exact .inl b
    · exact .inr (.inr (.inr (.inr (.inl b.2))))
  · obtain ⟨cur, a⟩ := own_tag h.ow q
    exact hk _ _ _ a (.inr (.inr (.inl rfl)))
  · obtain ⟨cur, a⟩ := own_tag h.ro q
    exact hk _ _ _ a (.inr (.inr (.inr (.inr (.inr q)))))
theorem SpW.below {w w' : World} {F : Nat → Prop} {H R : Nat} {s : StM} {ps fs : List Nat} {ov qv : Value} (h : SpW w F H s ps fs ov R qv) (hb : Below w.heap.size w w') : SpW w' F H s ps fs ov R qv := h.kept (fun k cs t a _ => hb.block k (lt_of a)) hb.size
/-- One object gets another colour. -/
theorem SpW.colour {w : World} {F : Nat → Prop} {H R : Nat} {s : StM} {ps fs : List Nat} {ov qv : Value} (h : SpW w F H s ps fs ov R qv) {z : Int} {o : ObM} (hg : getM s.obs z = some o) (c : Int) : SpW (w.setCell ⟨ps.getD (z.toNat - 1) 0, 2, none⟩ (.int .i64 c)) F H { s with obs := setCol s.obs z c } ps fs ov R qv := by
  have a := (h.ob.get hg).blk
  refine ⟨h.ob.colour hg c, ?_, ?_, ?_, ?_, h.n1, h.n2, h.n3, ⟨h.lo.1, h.lo.2.1, by have := h.lo.2.2; simpa [World.setCell] using this⟩, h.fo⟩
  · rw [set_other _ (tag_ne h.blk a (by decide))]
    show _ = some (Obj.cells #[_, _, _, _, _, .int .i64 ((setCol s.obs z c).length : Nat)] 66 (0, 0))
    rw [setCol_length]
    exact h.blk
  · show World.ownsRow _ _ _ _ _ (therL (setCol s.obs z c)).length (ptrsP ps (therL (setCol s.obs z c)))
    rw [therL_setCol]
    exact own_kept h.ow fun k q => by
      obtain ⟨cur, b⟩ := own_tag h.ow q
      exact set_other _ (tag_ne b a (by decide))
  · rw [set_other _ (tag_ne h.rt a (by decide))]
    exact h.rt
  · exact own_kept h.ro fun k q => by
      obtain ⟨cur, b⟩ := own_tag h.ro q
      exact set_other _ (tag_ne b a (by decide))
/-- The row grows. -/
theorem SpW.push {w w3 : World} {F : Nat → Prop} {H R : Nat} {s : StM} {ps fs : List Nat} {ov qv qv' : Value} {z : Int} {o : Obj} (h : SpW w F H s ps fs ov R qv) (hg : (w.alloc o).grownBy w3 qv.ownBlock) (ho : w3.ownsRow 0 2 1 qv' (s.row.length + 1) (intsV s.row ++ [.int .i64 z])) (ha : qv'.ownBlock = qv.ownBlock ∨ qv'.ownBlock = some (w.alloc o).heap.size) :
    SpW (w3.setCell ⟨H, 4, none⟩ qv') F H { s with row := s.row ++ [z] } ps fs ov R qv' ∧ Keep F w (w3.setCell ⟨H, 4, none⟩ qv') ∧ w3.cell? ⟨H, 4, none⟩ = some qv ∧ w3.frozen? ⟨H, 4, none⟩ = false := by
  have s1 : (w.alloc o).heap.size = w.heap.size + 1 := World.size_alloc _ _
  have s2 := hg.size
  have kp : ∀ k, k < w.heap.size → qv.ownBlock ≠ some k → w3.heap[k]? = w.heap[k]? := fun k hk hq => by
    rw [hg.block k (by omega) (fun e => hq e.symm), Below.heap_alloc _ _ _ hk]
  have hHq : qv.ownBlock ≠ some H := fun q => by
    obtain ⟨cur, b⟩ := own_tag h.ro q
    exact tag_ne b h.blk (by decide) rfl
  have kH := (kp H (lt_of h.blk) hHq).trans h.blk
  have hnew : ∀ k, k < w.heap.size → qv.ownBlock ≠ some k → qv'.ownBlock ≠ some k := fun k hk hq q => by
    rcases ha with e | e
    · exact hq (e.symm.trans q)
    · rw [e] at q
      injection q with q
      omega
  have kp2 : ∀ k, k < w.heap.size → qv.ownBlock ≠ some k → k ≠ H → (w3.setCell ⟨H, 4, none⟩ qv').heap[k]? = w.heap[k]? := fun k hk hq hH => by
    rw [set_other _ hH]
    exact kp k hk hq
  have hFq : ∀ k, qv'.ownBlock = some k → ¬ F k := fun k q r => by
    rcases ha with e | e
    · exact h.fo.2 k (e.symm.trans q) r
    · rw [e] at q
      injection q with q
      have := h.lo.2.2 k r
      omega
  have hob := h.ob.kept (w' := w3.setCell ⟨H, 4, none⟩ qv') fun k cs t a b => kp2 k (lt_of a) (fun q => by
    rcases b with b | b
    · obtain ⟨cur, c⟩ := own_tag h.ro q
      exact tag_ne c a (by rw [b]; decide) rfl
    · exact h.n3 k b.2 q) (tag_ne a h.blk (by rcases b with b | b; rw [b]; decide; rw [b.1]; decide))
  refine ⟨⟨hob, ?_, ?_, ?_, ?_, h.n1, ?_, ?_, ⟨h.lo.1, h.lo.2.1, fun k q => by have := h.lo.2.2 k q; simp [World.setCell]; omega⟩, ⟨h.fo.1, hFq⟩⟩, ?_, cell_of kH rfl, free_of kH⟩
  · rw [set_same _ kH]
    rfl
  · exact own_kept h.ow fun k q => by
      obtain ⟨cur, b⟩ := own_tag h.ow q
      refine kp2 k (lt_of b) (fun q2 => ?_) (tag_ne b h.blk (by decide))
      obtain ⟨cur2, c⟩ := own_tag h.ro q2
      exact tag_ne c b (by decide) rfl
  · rw [kp2 R (lt_of h.rt) h.n2 (tag_ne h.rt h.blk (by decide))]
    exact h.rt
  · show World.ownsRow _ _ _ _ _ (s.row ++ [z]).length (intsV (s.row ++ [z]))
    rw [List.length_append, intsV_append]
    exact own_kept ho fun k q => by
      obtain ⟨cur, b⟩ := own_tag ho q
      exact set_other _ (tag_ne b kH (by decide))
  · exact hnew R (lt_of h.rt) h.n2
  · intro f hf
    obtain ⟨i, hi, e⟩ := List.mem_iff_getElem.1 hf
    have hi2 : i < s.obs.length := by rw [← h.ob.lf]; exact hi
    have b := (h.ob.at_ i _ (List.getElem?_eq_getElem hi2)).row
    rw [List.getD_eq_getElem?_getD, List.getElem?_eq_getElem hi] at b
    rw [← e]
    exact hnew _ (lt_of b) (fun q => h.n3 _ (List.getElem_mem hi) q)
  · refine ⟨hg.os, hg.tape, hg.output, by simp [World.setCell]; omega, fun k hk => ?_⟩
    exact kp2 k (h.lo.2.2 k hk) (fun q => h.fo.2 k q hk) (fun e => h.lo.1 (e ▸ hk))
set_option maxRecDepth 100000 in
set_option maxHeartbeats 1000000 in
theorem shade_calls (w : World) (F : Nat → Prop) (H : Nat) (s : StM) (ps fs : List Nat) (ov : Value) (R : Nat) (qv : Value) (z : Int) (h : SpW w F H s ps fs ov R qv) (hl : s.obs.length ≤ 400) (hrl : s.row.length ≤ 400) :
    Calls Try.prog 76 #[.pointer (some ⟨H, 0, none⟩), .int .i64 z] w fun e w' => e = .returned (.tuple #[]) ∧ (∃ qv', SpW w' F H (s.shade z) ps fs ov R qv') ∧ Keep F w w' := by
  have hH : Hid (SpW w F H s ps fs ov R qv) := h
  have hget : Hid (Calls Try.prog 75 #[.pointer (some ⟨H, 0, none⟩), .int .i64 z] w fun e w' => (getM s.obs z ≠ none → e = .returned (.tuple #[.pointer (some ⟨ps.getD (z.toNat - 1) 0, 0, none⟩), .bool true]) ∧ w' = w) ∧ (getM s.obs z = none → (∃ g, e = .returned (.tuple #[.pointer (some ⟨g, 0, none⟩), .bool false])) ∧ Below w.heap.size w w')) := get_calls w F H s ps fs ov R qv z h hl
  obtain ⟨i9, hi9, hz9, hs9, hb9⟩ := int_info
  cases hg : getM s.obs z with
  | none =>
    have hgc : Hid (Calls Try.prog 75 #[.pointer (some ⟨H, 0, none⟩), .int .i64 z] w fun e w' => (∃ g, e = .returned (.tuple #[.pointer (some ⟨g, 0, none⟩), .bool false])) ∧ Below w.heap.size w w') := hget.out.mono fun e w' q => q.2 hg
    have hsh : Hid (s.shade z = s) := shade_none fun o ho => by rw [hg] at ho; cases ho
    clear hget h hg
    go_enter Try.func76, Try.ntmps76
    go_wp2_with (go_at_call 75; refine (show Calls _ _ _ _ _ from hgc.out).mono ?_; rintro e w' ⟨⟨g, rfl⟩, hb⟩)
    first | (refine bodyPost_ret (results_none rfl _ _ _) rfl ?_) | go_end0
    exact ⟨rfl, ⟨qv, by rw [hsh.out]; exact hH.out.below hb⟩, Keep.of hb hH.out.lo.2.2⟩
  | some o =>
    have hgc : Hid (Calls Try.prog 75 #[.pointer (some ⟨H, 0, none⟩), .int .i64 z] w fun e w' => e = .returned (.tuple #[.pointer (some ⟨ps.getD (z.toNat - 1) 0, 0, none⟩), .bool true]) ∧ w' = w) := hget.out.mono fun e w' q => q.1 (by rw [hg]; simp)
    have hgH : Hid (getM s.obs z = some o) := hg
    have hob := h.ob.get hg
    have k2 : w.cell? ⟨ps.getD (z.toNat - 1) 0, 2, none⟩ = some (.int .i64 o.col) := cell_of hob.blk rfl
    have kf : w.frozen? ⟨ps.getD (z.toNat - 1) 0, 2, none⟩ = false := free_of hob.blk
    have hS1 : Hid (SpW (w.setCell ⟨ps.getD (z.toNat - 1) 0, 2, none⟩ (.int .i64 2)) F H { s with obs := setCol s.obs z 2 } ps fs ov R qv) := h.colour hg 2
    have hpB : Hid (¬ F (ps.getD (z.toNat - 1) 0)) := by
      obtain ⟨a1, a2, _⟩ := getM_some.1 hg
      have hi := (List.getElem?_eq_some_iff.1 a2).1
      refine h.ob.lo.1 _ ?_
      rw [List.getD_eq_getElem?_getD, List.getElem?_eq_getElem (by rw [h.ob.lp]; exact hi)]
      exact List.getElem_mem _
    clear hget h hg hob
    obtain ⟨pp, hpp⟩ : ∃ pp, pp = ps.getD (z.toNat - 1) 0 := ⟨_, rfl⟩
    rw [← hpp] at hgc k2 kf hS1 hpB
    clear hpp
    by_cases hc : o.col = 1
    · have hsh : Hid (s.shade z = { s with obs := setCol s.obs z 2, row := s.row ++ [z] }) := shade_some hgH.out hc
      have k4 : (w.setCell ⟨pp, 2, none⟩ (.int .i64 2)).cell? ⟨H, 4, none⟩ = some qv := cell_of hS1.out.blk rfl
      have hbS : Hid (Keep F w (w.setCell ⟨pp, 2, none⟩ (.int .i64 2))) := (Keep.refl _ _).setCell (p := ⟨pp, 2, none⟩) hpB.out _
      rw [hc] at k2
      clear hc
      go_enter Try.func76, Try.ntmps76
      go_upto_region 3 with (go_at_call 75; refine (show Calls _ _ _ _ _ from hgc.out).mono ?_; rintro e w' ⟨rfl, hw⟩; subst hw)
      obtain ⟨W1, hW1⟩ : ∃ W1, W1 = w'.setCell ⟨pp, 2, none⟩ (.int .i64 2) := ⟨_, rfl⟩
      rw [← hW1] at k4 hS1 hbS ⊢
      clear hW1 hgc kf k2 hH
      have hloA : Hid ((W1.alloc (.cells #[.int .i64 z] 2)).ownsRow 0 2 1 qv s.row.length (intsV s.row)) := own_kept hS1.out.ro fun k hk => Below.heap_alloc _ _ _ (World.ownsRow.lt hS1.out.ro k hk).2
      have hsrcA : Hid (SrcAt (W1.alloc (.cells #[.int .i64 z] 2)) 1 (.slice (some ⟨W1.heap.size, 0, none⟩) 1 1) 1 [.int .i64 z]) := .inr ⟨⟨W1.heap.size, 0, none⟩, 1, rfl, rfl, fun j u hj => by
        have hj0 : j = 0 := by have := (List.getElem?_eq_some_iff.1 hj).1; simp at this; omega
        subst hj0
        simp at hj
        subst hj
        rw [Addr.add_lit]
        exact (rangeAt_heap (heap_alloc_new W1 (.cells #[.int .i64 z] 2))) 0 _ rfl⟩
      have hBs : Hid (0 ≤ (W1.alloc (.cells #[.int .i64 z] 2)).heap.size) := Nat.zero_le _
      obtain ⟨qa, qc, rfl⟩ := own_slice hS1.out.ro
      go_wp2_with (refine wpList_append_src rfl (.tmp 27) (.tmp 29) 31 rfl 0 2 i9 (.int .i64 0) 1 8 Try.underlying31 hi9 hz9 hs9 hb9 rfl (by omega) _ s.row.length (intsV s.row) rfl hloA.out _ 1 [.int .i64 z] rfl hsrcA.out (by simp [Value.oneCell']) (by unfold maxLen; omega) (by omega) hBs.out (fun qv' w2 hown2 hgrow2 hat2 => ?_); obtain ⟨pa, pb, pc, pd⟩ := hS1.out.push hgrow2 hown2 hat2; have hpa : Hid _ := pa; have hpb : Hid _ := pb; obtain ⟨qa', qc', rfl⟩ := own_slice hown2; clear pa pb hown2 hgrow2 hat2)
      first | (refine bodyPost_ret (results_none rfl _ _ _) rfl ?_) | go_end0
      exact ⟨rfl, ⟨_, by rw [hsh.out]; exact hpa.out⟩, hbS.out.trans hpb.out⟩
    · have hsh : Hid (s.shade z = s) := shade_none fun o' ho => by rw [hgH.out] at ho; injection ho with ho; subst ho; exact hc
      go_enter Try.func76, Try.ntmps76
      go_wp2_with (go_at_call 75; refine (show Calls _ _ _ _ _ from hgc.out).mono ?_; rintro e w' ⟨rfl, hw⟩; subst hw)
      first | (refine bodyPost_ret (results_none rfl _ _ _) rfl ?_) | go_end0
      exact ⟨rfl, ⟨qv, by rw [hsh.out]; exact hH.out⟩, Keep.refl _ _⟩
end Go.Proofs.Ytcigiilhlealdaa
