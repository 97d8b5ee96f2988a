import Derived.Test.YtjjccimeikkogaaGreatDoorLkT
namespace Go.Proofs.YtjjccimeikkogaaGreatDoor
set_option linter.unusedVariables false
open Go.Maps Go.WideMaps
open Go.ChangeShapes Go.WideShapes Go.ChangeAt Go.RowKit Go.Shelf
attribute [local go_sem] Oper.semAt_some
theorem above_calls (p : Option Addr) (s : ByteArray) (w : World) : Calls Tryz.prog 29 #[.pointer p, .string s] w fun e w' => e = .returned (.func (.func 52) #[] #[.pointer (some ⟨w.heap.size, 0, none⟩), .pointer (some ⟨w.heap.size + 1, 0, none⟩)]) ∧ w' = (w.alloc (.cells #[.pointer p] 54)).alloc (.cells #[.string s] 9) := by
 go_enter Tryz.func29, Tryz.ntmps29
 go_wp2
 go_ret
 exact ⟨rfl, rfl⟩
theorem u_c4 {W w1 : World} {b : Nat} {v : Value} {t : TypeId} (h : W.heap[b]? = some (.cells #[v] t (0, 0))) (hg : W.grownBy w1 none) (x : Obj) : (w1.alloc x).cell? ⟨b, 0, none⟩ = some v := by
 have h1 : w1.heap[b]? = some (.cells #[v] t (0, 0)) := (hg.block b (lt_of h) (by simp)).trans h
 have h2 := Below.heap_alloc w1 x b (lt_of h1)
 rw [h1] at h2
 simp [World.cell?, h2]
structure RdW (W : World) (q1 q2 q3 P N : Nat) (pre : List Nat) : Prop where
 x1 : W.heap[q1]? = some (.cells #[.pointer (some ⟨P, 0, none⟩)] 54 (0, 0))
 x2 : W.heap[q2]? = some (.cells #[.slice (some ⟨q3, 0, none⟩) N N] 73 (0, 0))
 x3 : ∃ cur, W.heap[q3]? = some (.cells cur 4 (0, 0)) ∧ ∀ k, k < N → cur[k]? = some (.bool (decide (k ∈ pre)))
theorem ItD.up {W : World} {nB P : Nat} {all : List ClassL} {av ov : Value} {M J R rc : Nat} {D : DataW Unit} {CE : Nat → Array Value} (h : ItD W nB P all av ov M J R rc D CE) : ItD W W.heap.size P all av ov M J R rc D CE := by
 have hl := h.lt.2.2
 have hl1 := h.lt.1
 have hl2 := h.lt.2.1
 refine ⟨h.spc, ?_, fun k hk => ?_, h.map, h.num, by omega, by omega, Nat.le_refl _⟩
 ·obtain ⟨b, off, c, e, hl, hx⟩ := h.av_
  exact ⟨b, off, c, e, by omega, hx⟩
 ·obtain ⟨p, q, s, t, e, h1, h2, h3, h4⟩ := (h.ce k hk).ex
  have sm : Same 0 nB W W := Same.below (Below.refl _ W)
  exact ⟨p, q, s, t, e, h1.kept StrK.kept hl (Same.below (Below.refl _ W)), h2.kept StrK.kept hl (Same.below (Below.refl _ W)), h3.kept FldK.kept hl (Same.below (Below.refl _ W)), h4.kept MthK.kept hl (Same.below (Below.refl _ W))⟩
theorem RdW.start {w w0 w1 : World} {P N : Nat} {s : ByteArray} (h0 : w.alloc (.cells #[.pointer (some ⟨P, 0, none⟩)] 54) = w0) (hg : w0.grownBy w1 none) (ho : w1.ownsRow w0.heap.size 4 1 (.slice (some ⟨w0.heap.size, 0, none⟩) N N) N (List.replicate N (.bool false))) {W3 : World}
  (h3 : ((w1.alloc (.cells #[.slice (some ⟨w0.heap.size, 0, none⟩) N N] 73)).alloc (.cells #[.pointer (some ⟨P, 0, none⟩)] 54)).alloc (.cells #[.string s] 9) = W3) :
  RdW W3 w.heap.size w1.heap.size w0.heap.size P N [] ∧ Below w.heap.size w W3 ∧ W3.heap[w1.heap.size + 1]? = some (.cells #[.pointer (some ⟨P, 0, none⟩)] 54 (0, 0)) ∧ W3.heap[w1.heap.size + 1 + 1]? = some (.cells #[.string s] 9 (0, 0)) ∧ w.heap.size < w0.heap.size ∧ w0.heap.size < w1.heap.size := by
 have hbw : Below w0.heap.size w0 w1 := ⟨hg.os, hg.tape, hg.output, hg.size, fun k hk => hg.block k hk (by simp)⟩
 have hsz := hg.size
 have hs0 : w0.heap.size = w.heap.size + 1 := by rw [← h0]; simp
 have hb0 : Below w.heap.size w w0 := by rw [← h0]; exact below_1 _ _
 have hb1 : Below w.heap.size w w1 := below_on2 hb0 hbw
 have hb13 : Below w1.heap.size w1 W3 := by
  rw [← h3]
  exact below_on2 (below_on2 (below_1 _ _) (below_1 _ _)) (below_1 _ _)
 have hq : w0.heap[w.heap.size]? = some (.cells #[.pointer (some ⟨P, 0, none⟩)] 54 (0, 0)) := by rw [← h0]; exact heap_alloc_new w _
 obtain ⟨hl, h'⟩ := ho
 rcases h' with ⟨e, _⟩ | ⟨g, cap, cur, e, hb, hg1, h3', h4', h5', h6'⟩
 ·cases e
 ·injection e with e1 e2 e3
  injection e1 with e1
  injection e1 with e1
  subst e1
  have hlt1 := lt_of hg1
  refine ⟨⟨?_, ?_, cur, ?_, fun k hk => ?_⟩, below_on2 hb1 hb13, ?_, ?_, by omega, hlt1⟩
  ·exact (hb13.block _ (by omega)).trans ((hbw.block _ (by omega)).trans hq)
  ·rw [← h3, Below.heap_alloc _ _ _ (by simp; omega), Below.heap_alloc _ _ _ (by simp)]
   exact heap_alloc_new w1 _
  ·exact (hb13.block _ hlt1).trans hg1
  ·have h7 : (List.replicate N (Value.bool false))[k]? = some (.bool false) := by simp [hk]
   rw [← h6', List.getElem?_take_of_lt (by omega)] at h7
   simpa using h7
  ·rw [← h3, Below.heap_alloc _ _ _ (by simp)]
   have := heap_alloc_new (w1.alloc (.cells #[.slice (some ⟨w0.heap.size, 0, none⟩) N N] 73)) (.cells #[.pointer (some ⟨P, 0, none⟩)] 54)
   simpa using this
  ·rw [← h3]
   have := heap_alloc_new ((w1.alloc (.cells #[.slice (some ⟨w0.heap.size, 0, none⟩) N N] 73)).alloc (.cells #[.pointer (some ⟨P, 0, none⟩)] 54)) (.cells #[.string s] 9)
   simpa using this
theorem RdW.kept {W W' : World} {q1 q2 q3 P N : Nat} {pre : List Nat} (h : RdW W q1 q2 q3 P N pre) (hk : ∀ k, k = q1 ∨ k = q2 ∨ k = q3 → W'.heap[k]? = W.heap[k]?) : RdW W' q1 q2 q3 P N pre := by
 obtain ⟨cur, h1, h2⟩ := h.x3
 exact ⟨(hk q1 (.inl rfl)).trans h.x1, (hk q2 (.inr (.inl rfl))).trans h.x2, cur, (hk q3 (.inr (.inr rfl))).trans h1, h2⟩
theorem RdW.lt {W : World} {q1 q2 q3 P N : Nat} {pre : List Nat} (h : RdW W q1 q2 q3 P N pre) {k : Nat} (hk : k = q1 ∨ k = q2 ∨ k = q3) : k < W.heap.size := by
 obtain ⟨cur, h1, _⟩ := h.x3
 rcases hk with rfl | rfl | rfl
 ·exact lt_of h.x1
 ·exact lt_of h.x2
 ·exact lt_of h1
theorem RdW.mark {W : World} {q1 q2 q3 P N x : Nat} {pre : List Nat} (h : RdW W q1 q2 q3 P N pre) (hx : x < N) : RdW (W.setCell ⟨q3, x, none⟩ (.bool true)) q1 q2 q3 P N (pre ++ [x]) := by
 obtain ⟨cur, h1, h2⟩ := h.x3
 refine ⟨?_, ?_, cur.setIfInBounds x (.bool true), set_same _ h1, fun k hk => ?_⟩
 ·rw [Below.heap_setCell _ _ _ _ (tag_ne h.x1 h1 (by decide))]; exact h.x1
 ·rw [Below.heap_setCell _ _ _ _ (tag_ne h.x2 h1 (by decide))]; exact h.x2
 ·rw [Array.getElem?_setIfInBounds]
  by_cases q : x = k
  ·subst q
   have : x < cur.size := (Array.getElem?_eq_some_iff.1 (h2 x hx)).1
   simp [this]
  ·rw [if_neg q, h2 k hk]
   have : (k ∈ pre ++ [x]) ↔ k ∈ pre := by simp; intro e; exact absurd e.symm q
   simp only [this]
set_option maxRecDepth 1000000 in
set_option maxHeartbeats 8000000 in
theorem reached_calls (s : ByteArray) (w : World) (nB P : Nat) (all : List ClassL) (av ov : Value) (M J0 R0 rc : Nat) (D : DataW Unit) (CE : Nat → Array Value) (hok : AllOk all) (hd0 : ItD w nB P all av ov M J0 R0 rc D CE) (hs : s.size ≤ 1048576) :
  Calls Tryz.prog 133 #[.pointer (some ⟨P, 0, none⟩), .string s] w fun e w' => (∃ mr, e = .returned (.slice (some ⟨mr, 0, none⟩) all.length all.length) ∧ w.heap.size ≤ mr ∧ ∃ cur, w'.heap[mr]? = some (.cells cur 4 (0, 0)) ∧ ∀ k, k < all.length → cur[k]? = some (.bool (decide (k ∈ abvL all s.toList)))) ∧ Below w.heap.size w w' := by
 have hd := hd0.up
 have hdW : Hid (∀ W', Below w.heap.size w W' → ItD W' w.heap.size P all av ov M J0 R0 rc D CE) := fun W' h => hd.kept h
 have hokH : Hid (AllOk all) := hok
 obtain ⟨rv0, hsp⟩ := hd.spc
 obtain ⟨ab, ao, ac, rfl, hab, -⟩ := hd.av_
 have c2 : w.cell? ⟨P, 0, none⟩ = some (.slice (some ⟨ab, ao, none⟩) all.length ac) := by simp [World.cell?, hsp]
 have hPl : P < w.heap.size := hd.lt.1
 have hN : all.length ≤ 100 := hok.len
 have c2' : (w.alloc (.cells #[.pointer (some ⟨P, 0, none⟩)] 54)).cell? ⟨P, 0, none⟩ = some (.slice (some ⟨ab, ao, none⟩) all.length ac) := (World.grownBy_alloc w _ none).cell c2 (by simp)
 obtain ⟨w0, hw0⟩ : ∃ w0, w.alloc (.cells #[.pointer (some ⟨P, 0, none⟩)] 54) = w0 := ⟨_, rfl⟩
 have hq1 : w0.heap[w.heap.size]? = some (.cells #[.pointer (some ⟨P, 0, none⟩)] 54 (0, 0)) := by rw [← hw0]; exact heap_alloc_new w _
 have hsz0 : Hid (w0.heap.size = w.heap.size + 1) := by show _ = _; rw [← hw0]; simp
 have hb0 : Below w.heap.size w w0 := by rw [← hw0]; exact below_1 _ _
 clear hd hd0 hok hsp
 refine (callsIn_wide (n := 3)).1 ?_
 refine callsIn_of_wp_marks Tryz.func133 rfl trivial ?_ rfl
 simp only [Tryz.ntmps133, List.size_toArray, List.length_cons, List.length_nil, Nat.reduceAdd, Nat.reduceSub, Array.replicate_succ, Array.replicate_zero, List.push_toArray, List.append_toArray, List.nil_append, List.cons_append]
 obtain ⟨i0, hi0, hz0, hz1, hz2⟩ := info_parts (show (Tryz.prog.info? 4).map (fun i => (i.zero, i.size, i.bytes)) = some (some (.bool false), 1, 1) by kernel_rfl)
 have c1 : w0.cell? ⟨w.heap.size, 0, none⟩ = some (.pointer (some ⟨P, 0, none⟩)) := by simp [World.cell?, hq1]
 have c3 : w0.cell? ⟨P, 0, none⟩ = some (.slice (some ⟨ab, ao, none⟩) all.length ac) := by rw [← hw0]; exact c2'
 clear c2 c2'
 gi_wp2_with (refine make_fullIn _ rfl (.tmp 11) (.tmp 11) 73 rfl w0.heap.size 4 i0 (.bool false) 1 Tryz.underlying73 hi0 hz0 hz1 .i64 .i64 all.length rfl rfl (by rw [hz2]; omega) (by unfold maxLen; omega) (Nat.le_refl _) ?_; intro w1 hown1 hgrow1; have c4 : (w1.alloc (.cells #[.slice (some ⟨w0.heap.size, 0, none⟩) all.length all.length] 73)).cell? ⟨w.heap.size, 0, none⟩ = some (.pointer (some ⟨P, 0, none⟩)) := u_c4 hq1 hgrow1 _)
 rw [made_falses] at hown1
 refine ⟨trivial, ?_⟩
 refine (callsIn_wide.2 (above_calls _ _ _)).mono ?_
 rintro e W3 ⟨rfl, rfl⟩
 gi_wp2
 have hst := RdW.start hw0 hgrow1 hown1 (W3 := ((w1.alloc (.cells #[.slice (some ⟨w0.heap.size, 0, none⟩) all.length all.length] 73)).alloc (.cells #[.pointer (some ⟨P, 0, none⟩)] 54)).alloc (.cells #[.string s] 9)) rfl
 generalize (((w1.alloc (.cells #[.slice (some ⟨w0.heap.size, 0, none⟩) all.length all.length] 73)).alloc (.cells #[.pointer (some ⟨P, 0, none⟩)] 54)).alloc (.cells #[.string s] 9)) = W3 at *
 clear hown1 hgrow1 c1 c3 c4 hq1
 obtain ⟨hrd3, hb3, hx1, hx2, hqs'⟩ := hst
 have hqs : Hid (w.heap.size < w0.heap.size ∧ w0.heap.size < w1.heap.size) := hqs'
 clear hqs' hw0 hb0
 obtain ⟨q1, hq1⟩ : ∃ q, w.heap.size = q := ⟨_, rfl⟩
 obtain ⟨q2, hq2⟩ : ∃ q, w1.heap.size = q := ⟨_, rfl⟩
 obtain ⟨q3, hq3⟩ : ∃ q, w0.heap.size = q := ⟨_, rfl⟩
 obtain ⟨e1, he1⟩ : ∃ q, q2 + 1 = q := ⟨_, rfl⟩
 obtain ⟨e2, he2⟩ : ∃ q, e1 + 1 = q := ⟨_, rfl⟩
 simp only [hq1, hq2, hq3, he1, he2] at hrd3 hb3 hx1 hx2 hqs hdW hsz0 hPl ⊢
 have hrH : Hid (RdW W3 q1 q2 q3 P all.length [] ∧ Below q1 w W3 ∧ q1 < q3 ∧ q3 < q2) := ⟨hrd3, hb3, hqs.out⟩
 have hd3 := hdW.out W3 hb3
 refine wpIn_range_fp (gf := 52) (lb := #[.pointer (some ⟨e1, 0, none⟩), .pointer (some ⟨e2, 0, none⟩)]) rfl (enters_of Tryz.func52 (by kernel_rfl) rfl)
  (encs := fun k : Nat => #[.agg (CE k)]) (xs := abvL all s.toList) (nB := q1) (Cx := fun k => k = e1 ∨ k = e2) (above_seq _ W3 q1 P all _ ov M J0 R0 rc D CE e1 e2 s hokH.out hd3 hx1 hx2 hs) (fun _ => rfl) hd3.lt.2.2
  ?_ (fun F pre W => F = (fun k => k = q1 ∨ k = q2 ∨ k = q3) ∧ RdW W q1 q2 q3 P all.length pre) (fun _ _ _ _ => False) ?_ ?_ (fun _ => ⟨fun h => h.elim, fun h => h.elim⟩) (fun k => k = q1 ∨ k = q2 ∨ k = q3) ?_ ⟨rfl, hrd3⟩
  (fun x a' F pre W => ∃ b, q1 ≤ b ∧ F = (fun k => k = q1 ∨ k = q2 ∨ k = q3 ∨ k = b) ∧ RdW W q1 q2 q3 P all.length pre ∧ W.heap[b]? = some (.cells (CE x) 49 (0, 0)) ∧
   a' = { tmps := #[.pointer (some ⟨P, 0, none⟩), .string s, .pointer (some ⟨q1, 0, none⟩), undef, .slice none 0 0, .pointer (some ⟨q2, 0, none⟩), .pointer (some ⟨b, 0, none⟩), .pointer (some ⟨P, 0, none⟩), .pointer (some ⟨P, 0, none⟩), .pointer (some ⟨P, 0, none⟩),
    .slice (some ⟨ab, ao, none⟩) all.length ac, .int .i64 all.length, .slice (some ⟨q3, 0, none⟩) all.length all.length, .pointer (some ⟨P, 0, none⟩), .string s,
    .func (.func 52) #[] #[.pointer (some ⟨e1, 0, none⟩), .pointer (some ⟨e2, 0, none⟩)], .agg (CE x), undef, undef, undef, undef, undef, undef, undef, undef, undef, undef], defers := [] }) ?_ ?assign ?body ?done ?stop
 ·rintro k (rfl | rfl)
  ·exact lt_of hx1
  ·exact lt_of hx2
 ·refine ⟨?_, ?_⟩
  ·rintro F pre W ⟨rfl, h⟩ k hk
   exact h.lt hk
  ·rintro F pre A B ⟨rfl, h⟩ hk
   exact ⟨rfl, h.kept hk.block⟩
 ·rintro F pre W ⟨rfl, h⟩ k hk
  have := hrH.out.2.2
  omega
 ·intro k hk
  have := hrH.out.2.2
  omega
 ·intro x a'
  refine ⟨?_, ?_⟩
  ·rintro F pre W ⟨b, hb, rfl, h, hx, rfl⟩ k hk
   rcases hk with hk | hk | hk | rfl
   ·exact h.lt (.inl hk)
   ·exact h.lt (.inr (.inl hk))
   ·exact h.lt (.inr (.inr hk))
   ·exact lt_of hx
  ·rintro F pre A B ⟨b, hb, rfl, h, hx, rfl⟩ hk
   refine ⟨b, hb, rfl, h.kept fun k q => hk.block k ?_, (hk.block b (.inr (.inr (.inr rfl)))).trans hx, rfl⟩
   rcases q with q | q | q
   ·exact .inl q
   ·exact .inr (.inl q)
   ·exact .inr (.inr (.inl q))
 case assign =>
  rintro l F pre x W ⟨rfl, hrd⟩ hbw hpre K hK
  have hx : x < all.length := (abvL_row all s.toList).lt x (hpre.subset (by simp))
  have hcs := ((hdW.out W (hrH.out.2.1.trans hbw)).ce x hx).ex
  have hrdH : Hid (RdW W q1 q2 q3 P all.length pre ∧ q1 ≤ W.heap.size) := ⟨hrd, by have := hrd.lt (.inl rfl); omega⟩
  have hKH : Hid (∀ F' a' W', (∃ b, q1 ≤ b ∧ F' = (fun k => k = q1 ∨ k = q2 ∨ k = q3 ∨ k = b) ∧ RdW W' q1 q2 q3 P all.length pre ∧ W'.heap[b]? = some (.cells (CE x) 49 (0, 0)) ∧
   a' = { tmps := #[.pointer (some ⟨P, 0, none⟩), .string s, .pointer (some ⟨q1, 0, none⟩), undef, .slice none 0 0, .pointer (some ⟨q2, 0, none⟩), .pointer (some ⟨b, 0, none⟩), .pointer (some ⟨P, 0, none⟩), .pointer (some ⟨P, 0, none⟩), .pointer (some ⟨P, 0, none⟩),
    .slice (some ⟨ab, ao, none⟩) all.length ac, .int .i64 all.length, .slice (some ⟨q3, 0, none⟩) all.length all.length, .pointer (some ⟨P, 0, none⟩), .string s,
    .func (.func 52) #[] #[.pointer (some ⟨e1, 0, none⟩), .pointer (some ⟨e2, 0, none⟩)], .agg (CE x), undef, undef, undef, undef, undef, undef, undef, undef, undef, undef], defers := [] }) → Stp (fun k => k = q1 ∨ k = q2 ∨ k = q3) F' W W' → K a' W') := hK
  clear hK hrd hx1 hx2 hrd3 hb3 hd3
  obtain ⟨p, q, sv, tv, hCE, hp, hq, hs5, ht6⟩ := hcs
  obtain ⟨pa, pc, rfl⟩ := hp.form
  obtain ⟨qa, qc, rfl⟩ := hq.form
  obtain ⟨sa, sc, rfl⟩ := hs5.form
  obtain ⟨ta, tc, rfl⟩ := ht6.form
  clear hp hq hs5 ht6
  have hCEH : Hid (CE x = _) := hCE
  simp only [hCE]
  clear hCE
  generalize (all[x]'hx).name = xn at *
  generalize (all[x]'hx).super = xs at *
  generalize (all[x]'hx).flags = xf at *
  generalize (all[x]'hx).ifs.length = np at *
  generalize (all[x]'hx).perms.length = nq at *
  generalize (all[x]'hx).fields.length = ns at *
  generalize (all[x]'hx).meths.length = nt at *
  gi_wp2
  refine hKH.out (fun k => k = q1 ∨ k = q2 ∨ k = q3 ∨ k = W.heap.size) _ _ ⟨W.heap.size, hrdH.out.2, rfl, hrdH.out.1.kept fun k hk => Below.heap_alloc W _ k (hrdH.out.1.lt hk), ?_, ?_⟩ ⟨keep_alloc W _ fun k q => q.1, fun k q => ?_⟩
  ·rw [hCEH.out]; exact heap_alloc_new W _
  ·rw [hCEH.out]
  ·rcases q with q | q | q | q
   ·exact .inl (.inl q)
   ·exact .inl (.inr (.inl q))
   ·exact .inl (.inr (.inr q))
   ·exact .inr (by omega)
 case body =>
  rintro l F pre x a' W ⟨b, hb, rfl, hrd, hbx, rfl⟩ hbw hpre
  have hx : x < all.length := (abvL_row all s.toList).lt x (hpre.subset (by simp))
  have hdw := hdW.out W (hrH.out.2.1.trans hbw)
  have hcs := (hdw.ce x hx).ex
  obtain ⟨rv1, hsp⟩ := hdw.spc
  obtain ⟨p, q, sv, tv, hCE, hp, hq, hs5, ht6⟩ := hcs
  have hrdH : Hid (RdW W q1 q2 q3 P all.length pre ∧ q1 ≤ W.heap.size ∧ (b ≠ q1 ∧ b ≠ q2 ∧ b ≠ q3) ∧ b < W.heap.size) := by
   obtain ⟨cur, h1, _⟩ := hrd.x3
   exact ⟨hrd, by have := hrd.lt (.inl rfl); omega, ⟨tag_ne hbx hrd.x1 (by decide), tag_ne hbx hrd.x2 (by decide), tag_ne hbx h1 (by decide)⟩, lt_of hbx⟩
  rw [hCE] at hbx
  have k1 : W.cell? ⟨q2, 0, none⟩ = some (.slice (some ⟨q3, 0, none⟩) all.length all.length) := by simp [World.cell?, hrd.x2]
  have k2 : W.cell? ⟨q1, 0, none⟩ = some (.pointer (some ⟨P, 0, none⟩)) := by simp [World.cell?, hrd.x1]
  have k3 : W.cell? ⟨P, 2, none⟩ = some (.map (some M)) := by simp [World.cell?, hsp]
  have k4 : W.cell? ⟨b, 0, none⟩ = some (.string (all[x]'hx).name) := by simp [World.cell?, hbx]
  have hnsz := hokH.out.nsz _ (List.getElem_mem hx)
  have hat := hdw.num.at_ (all[x]'hx).name.data.toList x (by rw [List.take_length, ← ByteArray.toList_eq]; exact atL_self hokH.out.nm hx)
  have hmd : W.drew.ownsMap Tryz.prog 9 (plainElem Tryz.prog 3) M all.length D := hdw.map
  obtain ⟨c0, hrun, hc0, _⟩ := hmd.lookup_int (string_keyed Tryz.underlying9) Tryz.underlying74 Tryz.underlying3 (Tryz.zeroValue3 _) (keyOf_string_mk (s := (all[x]'hx).name) Tryz.underlying9 (by unfold maxLen; omega))
  rw [hat] at hc0
  obtain rfl : (x : Int) = c0 := by simpa using hc0
  have hxI : (x : Int) < (all.length : Int) := by omega
  obtain ⟨cur, h1, h2⟩ := hrd.x3
  have k5 : W.cell? ⟨q3, x, none⟩ = some (.bool (decide (x ∈ pre))) := by simp only [World.cell?, h1]; exact h2 x hx
  have k6 : W.frozen? ⟨q3, x, none⟩ = false := by simp [World.frozen?, h1]
  have hxH : Hid (x < all.length) := hx
  simp only [hCE]
  generalize (all[x]'hx).name = xn at *
  clear hp hq hs5 ht6 hCE hat hc0 hsp h1 h2 hrd hbx hdw hmd hx1 hx2 hrd3 hb3 hd3
  have hfin : Hid (∃ F', (F' = (fun k => k = q1 ∨ k = q2 ∨ k = q3) ∧ RdW (W.setCell ⟨q3, x, none⟩ (.bool true)).drew q1 q2 q3 P all.length (pre ++ [x])) ∧ Stp (fun k => k = q1 ∨ k = q2 ∨ k = q3 ∨ k = b) F' W (W.setCell ⟨q3, x, none⟩ (.bool true)).drew) := by
   refine ⟨_, ⟨rfl, (hrdH.out.1.mark hxH.out).kept fun k _ => rfl⟩, ⟨⟨rfl, rfl, rfl, by simp [World.setCell], fun k hk => Below.heap_setCell _ _ _ _ (fun e => hk.2 (.inr (.inr (.inl e))))⟩, fun k hk => ?_⟩⟩
   rcases hk with hk | hk | hk
   ·exact .inl (.inl hk)
   ·exact .inl (.inr (.inl hk))
   ·exact .inl (.inr (.inr (.inl hk)))
  clear hrdH hxH
  gi_wp2
  gi_region
  all_goals gi_wp2
  all_goals exact hfin.out
 case done =>
  rintro D' F W ⟨rfl, hrd⟩ hbw hD hk hnD
  have k1 : W.cell? ⟨q2, 0, none⟩ = some (.slice (some ⟨q3, 0, none⟩) all.length all.length) := by simp [World.cell?, hrd.x2]
  have hfin : Hid ((∃ mr, (Ending.returned (.slice (some ⟨q3, 0, none⟩) all.length all.length) : Ending) = .returned (.slice (some ⟨mr, 0, none⟩) all.length all.length) ∧ q1 ≤ mr ∧ ∃ cur, (W.putObj D' (.deferred none)).heap[mr]? = some (.cells cur 4 (0, 0)) ∧ ∀ k, k < all.length → cur[k]? = some (.bool (decide (k ∈ abvL all s.toList)))) ∧ Below q1 w (W.putObj D' (.deferred none))) := by
   obtain ⟨cur, h1, h2⟩ := hrd.x3
   refine ⟨⟨q3, rfl, by have := hrH.out.2.2; omega, cur, ?_, h2⟩, (hrH.out.2.1.trans hbw).trans (below_putObj _ _ _ hD)⟩
   rw [World.putObj_heap_other (fun e => hnD (.inr (.inr e.symm)))]
   exact h1
  have hkH : Hid (W.heap[D']? = some (.deferred (some []))) := hk
  clear hk hrd hx1 hx2 hrd3 hb3 hd3
  gi_wp2
  refine ⟨by simp, .inl ⟨_, _, rfl, run_takeDeferred hkH.out, ?_⟩⟩
  refine ⟨_, results_tmp rfl _ _ _, ?_⟩
  exact hfin.out
 case stop =>
  rintro D c F pre W _ h
  exact h.elim
end Go.Proofs.YtjjccimeikkogaaGreatDoor
