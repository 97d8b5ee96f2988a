import Derived.Test.YtjjccimeikkogaaGreatDoorLfB
set_option maxRecDepth 1000000
set_option maxHeartbeats 2000000
namespace Go.Proofs.YtjjccimeikkogaaGreatDoor
set_option linter.unusedVariables false
open Go.ChangeShapes Go.WideShapes Go.ChangeAt Go.RowKit Go.Shelf
theorem alL {xs : List ClassL} (h : AllOk (allL xs)) : 3 ≤ (allL xs).length := by
 unfold allL
 split
 ·rw [List.length_append, bootC_len]; omega
 ·rw [bootC_len]; omega
theorem boF : ∀ x ∈ bootC, x.fields.length ≤ 1048576 := by
 have : (bootC.all fun x => decide (x.fields.length ≤ 1048576)) = true := by kernel_rfl
 intro x hx
 exact of_decide_eq_true (List.all_eq_true.1 this x hx)
theorem fiA {xs : List ClassL} (hs : ∀ x ∈ xs, x.small) : ∀ x ∈ allL xs, x.fields.length ≤ 1048576 := by
 intro x hx
 unfold allL at hx
 split at hx
 ·rcases List.mem_append.1 hx with h | h
  ·exact boF x h
  ·exact (hs x h).2.2.2.2.1.1
 ·exact boF x hx
def ansN (x : Option (ByteArray × FieldL)) : ByteArray := (x.map (·.1)).getD ⟨#[]⟩
def ansF (x : Option (ByteArray × FieldL)) : FieldL := (x.map (·.2)).getD ⟨⟨#[]⟩, ⟨#[]⟩, 0⟩
theorem fieldV_eq (x : Option (ByteArray × FieldL)) : fieldV x = .tuple #[.string (ansN x), .agg #[.string (ansF x).name, .string (ansF x).ty, .int .i64 (ansF x).flags]] := by cases x <;> rfl
def fldQ (xs : List ClassL) (s nm : ByteArray) : Option (ByteArray × FieldL) := fieldUp (allL xs) nm.toList (abvL (allL xs) s.toList)
def fldQV (xs : List ClassL) (s nm : ByteArray) : Value := .tuple #[.string (ansN (fldQ xs s nm)), .agg #[.string (ansF (fldQ xs s nm)).name, .string (ansF (fldQ xs s nm)).ty, .int .i64 (ansF (fldQ xs s nm)).flags]]
theorem specFieldOf_calls (t u : ByteArray) (v : Value) (xs : List ClassL) (w : World) (lo hi : Nat) (hh : hi ≤ w.heap.size) (hx : ListAt ClassR 7 true lo hi w v xs) (hn : xs.length ≤ 1048576) (hs : ∀ x ∈ xs, x.small) (hw : ∀ x ∈ xs, x.wide) (hbe : BootEnv w) (hts : t.size ≤ 1048576) (hus : u.size ≤ 1048576) :
  Calls Tryz.prog 20 #[v, .string t, .string u] w fun e w' => e = .returned (fldQV xs t u) ∧ Below w.heap.size w w' := by
 obtain ⟨W0, hW0⟩ : ∃ W0, w.alloc (.cells #[.string ⟨#[]⟩, .string ⟨#[]⟩, .int .i64 0] 36) = W0 := ⟨_, rfl⟩
 have hb0 : Below w.heap.size w W0 := by rw [← hW0]; exact below_1 _ _
 have hq0 : W0.heap[w.heap.size]? = some (.cells #[.string ⟨#[]⟩, .string ⟨#[]⟩, .int .i64 0] 36 (0, 0)) := by rw [← hW0]; exact heap_alloc_new w _
 have hx0 : ListAt ClassR 7 true lo hi W0 v xs := hx.kept ClassR.stable (Nat.le_refl _) (Nat.le_refl _) ((Same.below hb0).mono (Nat.zero_le _) hh)
 obtain ⟨a, c, rfl⟩ := hx.form
 have hall := all6_calls a xs.length c xs W0 lo hi (Nat.le_trans hh hb0.size) hx0 rfl hn hs (hbe.kept hb0)
 have hok := allOk_all hs hw
 have hfl := fiA hs
 have hallH : Hid (Calls Tryz.prog 25 #[.slice a xs.length c] W0 fun e w' => (∃ v, e = .returned v ∧ AllAt w'.heap.size w' v (allL xs)) ∧ Below W0.heap.size W0 w') := hall
 have hI : Hid (∀ a n c W, AllAt W.heap.size W (.slice a n c) (allL xs) → Calls Tryz.prog 38 #[.slice a n c, .string t, .string u] W fun e w' => e = .returned (fldQV xs t u) ∧ Below W.heap.size W w') := fun a n c W hq => by
  have hn' : n = (allL xs).length := by
   obtain ⟨a', c', e⟩ := hq.form
   injection e
  have := hok.len
  have hc := field6_calls a n c t u (allL xs) W W.heap.size (Nat.le_refl _) hq (by omega) hok.nm hok.ifs hfl
  rw [fieldV_eq] at hc
  exact hc
 unfold fldQV at *
 generalize ansN (fldQ xs t u) = aN at *
 generalize ansF (fldQ xs t u) = aF at *
 have hb0H : Hid (Below w.heap.size w W0) := hb0
 have hq0H : Hid (W0.heap[w.heap.size]? = some (.cells #[.string ⟨#[]⟩, .string ⟨#[]⟩, .int .i64 0] 36 (0, 0))) := hq0
 clear hall hx hok hfl hx0 hb0 hq0
 generalize xs.length = n at *
 go_enter Tryz.func20, Tryz.ntmps20
 go_wp2_with fail
 try rw [hW0]
 refine hallH.out.mono ?_
 rintro e w1 ⟨⟨v1, rfl, hv1⟩, hb1⟩
 obtain ⟨a1, c1, rfl⟩ := hv1.form
 have hI1 : Hid (Calls Tryz.prog 38 #[.slice a1 (allL xs).length c1, .string t, .string u] w1 fun e w' => e = .returned (.tuple #[.string aN, .agg #[.string aF.name, .string aF.ty, .int .i64 aF.flags]]) ∧ Below w1.heap.size w1 w') := hI.out _ _ _ _ hv1
 generalize (allL xs).length = n1 at *
 have hb1H : Hid (Below W0.heap.size W0 w1) := hb1
 clear hI hv1 hb1
 go_wp2_with fail
 refine hI1.out.mono ?_
 rintro e w2 ⟨rfl, hb2⟩
 have hb2H : Hid (Below W0.heap.size W0 w2) := below_on2 hb1H.out hb2
 have hq2 : Hid (w2.heap[w.heap.size]? = some (.cells #[.string ⟨#[]⟩, .string ⟨#[]⟩, .int .i64 0] 36 (0, 0))) := (hb2H.out.block _ (lt_of hq0H.out)).trans hq0H.out
 clear hb2 hb1H
 go_wp2_with (refine wpList_store_mid rfl 36 _ _ rfl w.heap.size 0 #[.string aF.name, .string aF.ty, .int .i64 aF.flags] rfl rfl (show World.there _ w.heap.size 0 3 from there_heap hq2.out) (by kernel_rfl) (by simp [Value.oneCell']) ?_)
 refine bodyPost_ret (v := .tuple #[.string aN, .agg #[.string aF.name, .string aF.ty, .int .i64 aF.flags]]) (resTC rfl _ _ w.heap.size [.string aF.name, .string aF.ty, .int .i64 aF.flags] _ (.string aN) rfl rfl (World.rangeAt_setCells_same _ _ _ _ (show World.there _ w.heap.size 0 3 from there_heap hq2.out)) Tryz.underlying36 rfl (by kernel_rfl)) rfl ⟨rfl, ?_⟩
 exact below_setCells _ (Nat.le_refl _) _ _ _ (below_on2 hb0H.out hb2H.out)
theorem implFieldOf_calls (t u : ByteArray) (v : Value) (xs : List ClassL) (w : World) (lo hi : Nat) (hh : hi ≤ w.heap.size) (hx : ListAt ClassR 7 true lo hi w v xs) (hn : xs.length ≤ 1048576) (hs : ∀ x ∈ xs, x.small) (hw : ∀ x ∈ xs, x.wide) (he : EnvOk w) (hbe : BootEnv w) (hts : t.size ≤ 1048576) (hus : u.size ≤ 1048576) :
  Calls Tryz.prog 21 #[v, .string t, .string u] w fun e w' => e = .returned (fldQV xs t u) ∧ Below w.heap.size w w' := by
 obtain ⟨W0, hW0⟩ : ∃ W0, w.alloc (.cells #[.string ⟨#[]⟩, .string ⟨#[]⟩, .int .i64 0] 36) = W0 := ⟨_, rfl⟩
 have hb0 : Below w.heap.size w W0 := by rw [← hW0]; exact below_1 _ _
 have hq0 : W0.heap[w.heap.size]? = some (.cells #[.string ⟨#[]⟩, .string ⟨#[]⟩, .int .i64 0] 36 (0, 0)) := by rw [← hW0]; exact heap_alloc_new w _
 have hx0 : ListAt ClassR 7 true lo hi W0 v xs := hx.kept ClassR.stable (Nat.le_refl _) (Nat.le_refl _) ((Same.below hb0).mono (Nat.zero_le _) hh)
 have hok := allOk_all hs hw
 have hfl := fiA hs
 have h3 := alL hok
 have hall : Hid (Calls Tryz.prog 28 #[v] W0 fun e w' => (∃ P, e = .returned (.pointer (some ⟨P, 0, none⟩)) ∧ Calls Tryz.prog 39 #[.pointer (some ⟨P, 0, none⟩), .string t, .string u] w' fun e2 w2 => e2 = .returned (fldQV xs t u) ∧ Below w'.heap.size w' w2) ∧ Below W0.heap.size W0 w') := by
  refine (spaceOf_calls v xs W0 lo hi (Nat.le_trans hh hb0.size) hx0 hn hs hw (he.kept hb0) (hbe.kept hb0)).mono ?_
  rintro e w' ⟨⟨b0, P, av, ov, M, J, R, rc, D, hb, rfl, hsp⟩, hb1⟩
  refine ⟨⟨P, rfl, ?_⟩, hb1⟩
  obtain ⟨CE, hd⟩ := hsp.itd (by omega)
  have hc := fieldOf_calls t u w' _ P (allL xs) av ov M J R rc D CE hok hfl hd hts
  rw [fieldV_eq] at hc
  exact hc
 unfold fldQV at *
 generalize ansN (fldQ xs t u) = aN at *
 generalize ansF (fldQ xs t u) = aF at *
 have hb0H : Hid (Below w.heap.size w W0) := hb0
 have hq0H : Hid (W0.heap[w.heap.size]? = some (.cells #[.string ⟨#[]⟩, .string ⟨#[]⟩, .int .i64 0] 36 (0, 0))) := hq0
 obtain ⟨a, c, rfl⟩ := hx.form
 clear hok hfl h3 hx hx0 hb0 hq0
 generalize xs.length = n at *
 go_enter Tryz.func21, Tryz.ntmps21
 go_wp2_with fail
 try rw [hW0]
 refine hall.out.mono ?_
 rintro e w1 ⟨⟨P, rfl, hf⟩, hb1⟩
 have hfH : Hid (Calls Tryz.prog 39 #[.pointer (some ⟨P, 0, none⟩), .string t, .string u] w1 fun e2 w2 => e2 = .returned (.tuple #[.string aN, .agg #[.string aF.name, .string aF.ty, .int .i64 aF.flags]]) ∧ Below w1.heap.size w1 w2) := hf
 have hb1H : Hid (Below W0.heap.size W0 w1) := hb1
 clear hf hall hb1
 go_wp2_with fail
 refine hfH.out.mono ?_
 rintro e w2 ⟨rfl, hb2⟩
 have hb2H : Hid (Below W0.heap.size W0 w2) := below_on2 hb1H.out hb2
 have hq2 : Hid (w2.heap[w.heap.size]? = some (.cells #[.string ⟨#[]⟩, .string ⟨#[]⟩, .int .i64 0] 36 (0, 0))) := (hb2H.out.block _ (lt_of hq0H.out)).trans hq0H.out
 clear hb2 hb1H
 go_wp2_with (refine wpList_store_mid rfl 36 _ _ rfl w.heap.size 0 #[.string aF.name, .string aF.ty, .int .i64 aF.flags] rfl rfl (show World.there _ w.heap.size 0 3 from there_heap hq2.out) (by kernel_rfl) (by simp [Value.oneCell']) ?_)
 refine bodyPost_ret (v := .tuple #[.string aN, .agg #[.string aF.name, .string aF.ty, .int .i64 aF.flags]]) (resTC rfl _ _ w.heap.size [.string aF.name, .string aF.ty, .int .i64 aF.flags] _ (.string aN) rfl rfl (World.rangeAt_setCells_same _ _ _ _ (show World.there _ w.heap.size 0 3 from there_heap hq2.out)) Tryz.underlying36 rfl (by kernel_rfl)) rfl ⟨rfl, ?_⟩
 exact below_setCells _ (Nat.le_refl _) _ _ _ (below_on2 hb0H.out hb2H.out)
theorem lawFieldOf_calls (t u : ByteArray) (v : Value) (xs : List ClassL) (w : World) (hx : ListAt ClassR 7 false 0 w.heap.size w v xs) (hn : xs.length ≤ 9223372036854775807) (hu : ∀ x ∈ xs, x.upto) (hw : ∀ x ∈ xs, x.wide) (he : EnvOk w) (hbe : BootEnv w) :
  Calls Tryz.prog 6 #[v, .string t, .string u] w fun e w' => e = .returned (.bool true) ∧ Below w.heap.size w w' := by
 have inH : Hid (∀ W, Below w.heap.size w W → ListAt ClassR 7 false 0 w.heap.size W v xs) := fun W hW => hx.kept ClassR.stable (Nat.le_refl _) (Nat.le_refl _) (Same.below hW)
 have szH : Hid (Calls Tryz.prog 7 #[v, .int .i64 1048576] w fun e w' => SzQ 1048576 (sumL ClassL.sz xs) e ∧ Below w.heap.size w w') := szClassS_calls v xs w false 0 w.heap.size 1048576 (Nat.le_refl _) hx hn (by omega) (by omega) (fun x hx => szClass_calls x (hu x hx))
 have toH : Hid ((xs.length ≤ 1048576 ∧ ∀ x ∈ xs, x.small) → ∀ W, Below w.heap.size w W → Calls Tryz.prog 9 #[v] W fun e w' => ∃ u, e = .returned u ∧ ListAt ClassR 7 true W.heap.size w'.heap.size w' u xs ∧ Below W.heap.size W w') := fun hs W hW =>
  toClassS_calls v xs W w.heap.size hW.size (inH.out W hW) hs.1 (fun x hx => toClass_calls x w.heap.size (hs.2 x hx))
 have spH : Hid ((xs.length ≤ 1048576 ∧ ∀ x ∈ xs, x.small) → t.size ≤ 1048576 → u.size ≤ 1048576 → ∀ W u1 lo hi, hi ≤ W.heap.size → Below w.heap.size w W → ListAt ClassR 7 true lo hi W u1 xs → Calls Tryz.prog 20 #[u1, .string t, .string u] W fun e w' => e = .returned (fldQV xs t u) ∧ Below W.heap.size W w') := fun hs h1 h2 W u1 lo hi hh hW hr => specFieldOf_calls t u u1 xs W lo hi hh hr hs.1 hs.2 hw (hbe.kept hW) h1 h2
 have imH : Hid ((xs.length ≤ 1048576 ∧ ∀ x ∈ xs, x.small) → t.size ≤ 1048576 → u.size ≤ 1048576 → ∀ W u1 lo hi, hi ≤ W.heap.size → Below w.heap.size w W → ListAt ClassR 7 true lo hi W u1 xs → Calls Tryz.prog 21 #[u1, .string t, .string u] W fun e w' => e = .returned (fldQV xs t u) ∧ Below W.heap.size W w') := fun hs h1 h2 W u1 lo hi hh hW hr => implFieldOf_calls t u u1 xs W lo hi hh hr hs.1 hs.2 hw (he.kept hW) (hbe.kept hW) h1 h2
 have eqH : Hid ((xs.length ≤ 1048576 ∧ ∀ x ∈ xs, x.small) → ∀ W u1 u2 lo1 hi1 lo2 hi2, hi1 ≤ W.heap.size → hi2 ≤ W.heap.size → ListAt ClassR 7 true lo1 hi1 W u1 xs → ListAt ClassR 7 true lo2 hi2 W u2 xs → Calls Tryz.prog 12 #[u1, u2] W fun e w' => e = .returned (.bool true) ∧ Below W.heap.size W w') := fun hs W u1 u2 lo1 hi1 lo2 hi2 g1 g2 q1 q2 =>
  eqClassS_calls u1 u2 xs W lo1 hi1 lo2 hi2 g1 g2 q1 q2 hs.1 (fun x hx => eqClass_calls x (hs.2 x hx))
 unfold fldQV at *
 generalize ansN (fldQ xs t u) = aN at *
 generalize ansF (fldQ xs t u) = aF at *
 obtain ⟨a, c, rfl⟩ := hx.form
 have hslH : Hid (sumL ClassL.sz xs ≤ 1048576 → (xs.length ≤ 1048576 ∧ ∀ x ∈ xs, x.small)) := fun h => by
  have := sumL_le (f := ClassL.sz) (xs := xs) (n := 1048576) h
  exact ⟨this.1, fun x hx => ClassL.small_of_sz (this.2 x hx)⟩
 clear hx hu hw he hbe inH hn
 generalize sumL ClassL.sz xs = z at *
 generalize xs.length = n at *
 by_cases hts : (1048576 : Int) < (t.size : Int)
 ·go_enter Tryz.func6, Tryz.ntmps6
  go_wp2
  go_ret
  exact ⟨rfl, Below.refl _ _⟩
 by_cases hus : (1048576 : Int) < (u.size : Int)
 ·go_enter Tryz.func6, Tryz.ntmps6
  go_wp2
  go_ret
  exact ⟨rfl, Below.refl _ _⟩
 have htsH : Hid (t.size ≤ 1048576 ∧ u.size ≤ 1048576) := ⟨by omega, by omega⟩
 go_enter Tryz.func6, Tryz.ntmps6
 go_wp2_with fail
 refine szH.out.mono ?_
 rintro e w1 ⟨⟨r, rfl, hr1, hr2⟩, hb1⟩
 by_cases hbig : (1048576 : Int) < z
 ·obtain rfl := hr1 hbig
  go_wp2
  go_ret
  exact ⟨rfl, hb1⟩
 obtain rfl := hr2 (by omega)
 have hsm := hslH.out (by omega)
 have toK := (show Hid _ from toH.out hsm)
 have spK := (show Hid _ from spH.out hsm htsH.out.1 htsH.out.2)
 have imK := (show Hid _ from imH.out hsm htsH.out.1 htsH.out.2)
 have eqK := (show Hid _ from eqH.out hsm)
 have hpos : (0 : Int) ≤ 1048576 - z := by omega
 have hb1H : Hid (Below w.heap.size w w1) := hb1
 clear toH spH imH eqH hr1 hr2 szH hsm hslH hb1
 go_wp2_with fail
 refine (toK.out w1 hb1H.out).mono ?_
 rintro e w2 ⟨u2, rfl, l2, hb2⟩
 have hb2H : Hid (Below w.heap.size w w2) := below_on2 hb1H.out hb2
 have sp2 : Hid (Calls Tryz.prog 20 #[u2, .string t, .string u] w2 fun e w' => e = .returned (.tuple #[.string aN, .agg #[.string aF.name, .string aF.ty, .int .i64 aF.flags]]) ∧ Below w2.heap.size w2 w') := spK.out w2 u2 _ _ (Nat.le_refl _) hb2H.out l2
 obtain ⟨a2, c2, rfl⟩ := l2.form
 clear l2 hb2
 go_wp2_with fail
 refine sp2.out.mono ?_
 rintro e w3 ⟨rfl, hb3⟩
 have hb3H : Hid (Below w.heap.size w w3) := below_on2 hb2H.out hb3
 clear hb3 sp2
 obtain ⟨W3, hW3⟩ : ∃ W, w3.alloc (.cells #[.string aF.name, .string aF.ty, .int .i64 aF.flags] 36) = W := ⟨_, rfl⟩
 have hb3b : Hid (Below w3.heap.size w3 W3) := by show Below _ _ _; rw [← hW3]; exact below_1 _ _
 have hq3 : Hid (W3.heap[w3.heap.size]? = some (.cells #[.string aF.name, .string aF.ty, .int .i64 aF.flags] 36 (0, 0))) := by show _ = _; rw [← hW3]; exact heap_alloc_new _ _
 have hb3X : Hid (Below w.heap.size w W3) := below_on2 hb3H.out hb3b.out
 obtain ⟨q3, hq3e⟩ : ∃ q, w3.heap.size = q := ⟨_, rfl⟩
 go_wp2_with fail
 try rw [hW3]
 rw [hq3e] at hq3
 try rw [hq3e]
 clear hW3 hb3b hq3e
 refine (toK.out W3 hb3X.out).mono ?_
 rintro e w4 ⟨u4, rfl, l4, hb4⟩
 have hb4H : Hid (Below w.heap.size w w4) := below_on2 hb3X.out hb4
 have hq4 : Hid (w4.heap[q3]? = some (.cells #[.string aF.name, .string aF.ty, .int .i64 aF.flags] 36 (0, 0))) := (hb4.block _ (lt_of hq3.out)).trans hq3.out
 have im4 : Hid (Calls Tryz.prog 21 #[u4, .string t, .string u] w4 fun e w' => e = .returned (.tuple #[.string aN, .agg #[.string aF.name, .string aF.ty, .int .i64 aF.flags]]) ∧ Below w4.heap.size w4 w') := imK.out w4 u4 _ _ (Nat.le_refl _) hb4H.out l4
 have l4H : Hid (ListAt ClassR 7 true W3.heap.size w4.heap.size w4 u4 xs) := l4
 obtain ⟨a4, c4, rfl⟩ := l4.form
 clear l4 hb4 hq3
 go_wp2_with fail
 refine im4.out.mono ?_
 rintro e w5 ⟨rfl, hb5⟩
 have hb5H : Hid (Below w.heap.size w w5) := below_on2 hb4H.out hb5
 have hq5 : w5.heap[q3]? = some (.cells #[.string aF.name, .string aF.ty, .int .i64 aF.flags] 36 (0, 0)) := (hb5.block _ (lt_of hq4.out)).trans hq4.out
 have l5H : Hid (∀ W, Below w5.heap.size w5 W → w4.heap.size ≤ W.heap.size ∧ ListAt ClassR 7 true W3.heap.size w4.heap.size W _ xs) := fun W hW => ⟨Nat.le_trans hb5.size hW.size, l4H.out.kept ClassR.stable (Nat.le_refl _) (Nat.le_refl _) ((Same.below (below_on2 hb5 hW)).mono (Nat.zero_le _) (Nat.le_refl _))⟩
 have hz : ∀ {a : Addr} {v : Value}, w5.cell? a = some v → (w5.alloc (.cells #[.string aF.name, .string aF.ty, .int .i64 aF.flags] 36)).cell? a = some v := fun {a v} h => (World.grownBy_alloc w5 _ none).cell h (by simp)
 have y0 := hz (a := ⟨q3, 0, none⟩) (v := .string aF.name) (by simp [World.cell?, hq5])
 have y1 := hz (a := ⟨q3, 1, none⟩) (v := .string aF.ty) (by simp [World.cell?, hq5])
 have y2 := hz (a := ⟨q3, 2, none⟩) (v := .int .i64 aF.flags) (by simp [World.cell?, hq5])
 have hEF : Hid (∀ W, Calls Tryz.prog 22 #[.agg #[.string aF.name, .string aF.ty, .int .i64 aF.flags], .agg #[.string aF.name, .string aF.ty, .int .i64 aF.flags]] W fun e w' => e = .returned (.bool true) ∧ Below W.heap.size W w') := fun W => eqField_calls aF W [.string aF.name, .string aF.ty, .int .i64 aF.flags] [.string aF.name, .string aF.ty, .int .i64 aF.flags] 0 0 0 0 (Nat.zero_le _) (Nat.zero_le _) rfl rfl rfl rfl
 have hxx : (aN.toList != aN.toList) = false := by simp
 have hxy : (aN.toList == aN.toList) = true := by simp
 clear hb5 im4 l4H hq4 hq5 hz
 go_wp2_with (go_at_call 22; refine (hEF.out _).mono ?_; rintro e w5b ⟨rfl, hb5b⟩)
 have hb5X : Hid (Below w.heap.size w w5b) := below_on2 (below_on2 hb5H.out (below_1 _ _)) hb5b
 have hb55 : Hid (Below w5.heap.size w5 w5b) := below_on2 (below_1 _ _) hb5b
 clear hb5b y0 y1 y2
 refine (toK.out w5b hb5X.out).mono ?_
 rintro e w6 ⟨u6, rfl, l6, hb6⟩
 have eq6 : Hid (Calls Tryz.prog 12 #[_, u6] w6 fun e w' => e = .returned (.bool true) ∧ Below w6.heap.size w6 w') := eqK.out w6 _ u6 _ _ _ _ (l5H.out w6 (below_on2 hb55.out hb6)).1 (Nat.le_refl _) (l5H.out w6 (below_on2 hb55.out hb6)).2 l6
 obtain ⟨a6, c6, rfl⟩ := l6.form
 have hb6H : Hid (Below w.heap.size w w6) := below_on2 hb5X.out hb6
 clear l6 hb6
 go_wp2_with fail
 refine eq6.out.mono ?_
 rintro e w7 ⟨rfl, hb7⟩
 go_wp2
 go_ret
 exact ⟨rfl, below_on2 hb6H.out hb7⟩
end Go.Proofs.YtjjccimeikkogaaGreatDoor
