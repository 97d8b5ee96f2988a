import Derived.Test.YtjjccimeikkogaaGreatDoorLkX
namespace Go.Proofs.YtjjccimeikkogaaGreatDoor
set_option linter.unusedVariables false
open Go.ChangeShapes Go.WideShapes Go.ChangeAt Go.RowKit Go.Shelf
theorem alL {xs : List ClassL} (h : AllOk (allL xs)) : 3 ≤ (allL xs).length := by
 unfold allL
 split
 ·rw [List.length_append, bootC_len]; omega
 ·rw [bootC_len]; omega
theorem iAc (t u : ByteArray) (b0 P : Nat) (all : List ClassL) (av ov : Value) (M J R rc : Nat) (D : DataW Unit) (hok : AllOk all) (h3 : 3 ≤ all.length) : ∀ (m : Nat) (t u : ByteArray) (w : World), t.size ≤ m → SpcAt w b0 P all av ov M J R rc D → b0 ≤ w.heap.size → t.size ≤ 1048576 → u.size ≤ 1048576 →
  Calls Tryz.prog 64 #[.pointer (some ⟨P, 0, none⟩), .string t, .string u, .func (.func 65) #[] #[]] w fun e w' => e = .returned (.bool (isofI (abvB all) (fun s => decide (s = objN)) t.data.toList u.data.toList)) ∧ Below b0 w w'
 | 0, t, u, w, hm, hsp, hb0, hts, hus => iAs (fun s => decide (s = objN)) t u w b0 P all av ov M J R rc D hok h3 hsp hb0 hts hus (fun s W _ _ => same_below (isA1_calls s W)) fun t' u' W h0 => absurd h0 (by omega)
 | m + 1, t, u, w, hm, hsp, hb0, hts, hus => iAs (fun s => decide (s = objN)) t u w b0 P all av ov M J R rc D hok h3 hsp hb0 hts hus (fun s W _ _ => same_below (isA1_calls s W)) fun t' u' W h0 e1 e2 hW => by
  have l1 := toList_size t'
  have l2 := toList_size u'
  rw [e1, List.length_tail] at l1
  rw [e2, List.length_tail] at l2
  have l3 := toList_size t
  have l4 := toList_size u
  exact iAc t u b0 P all av ov M J R rc D hok h3 m t' u' W (by omega) (hsp.below hW) (Nat.le_trans hb0 hW.size) (by omega) (by omega)
def isaQ (xs : List ClassL) (t u : ByteArray) : Bool := isaS (abvB (allL xs)) t.data.toList u.data.toList
theorem sIA (t u : ByteArray) (v : Value) (xs : List ClassL) (w : World) (lo hi : Nat) (hh : hi ≤ w.heap.size) (hx : ListAt ClassR 7 true lo hi w v xs) (hn : xs.length ≤ 1048576) (hs : ∀ x ∈ xs, x.small) (hw : ∀ x ∈ xs, x.wide) (hbe : BootEnv w) (hts : t.size ≤ 1048576) (hus : u.size ≤ 1048576) :
  Calls Tryz.prog 16 #[v, .string t, .string u] w fun e w' => e = .returned (.bool (isaQ xs t u)) ∧ Below w.heap.size w w' := by
 obtain ⟨a, c, rfl⟩ := hx.form
 have hall := all6_calls a xs.length c xs w lo hi hh hx rfl hn hs hbe
 have hok := allOk_all hs hw
 have hallH : Hid (Calls Tryz.prog 25 #[.slice a xs.length c] w fun e w' => (∃ v, e = .returned v ∧ AllAt w'.heap.size w' v (allL xs)) ∧ Below w.heap.size w w') := hall
 have hI : Hid (∀ a n c W, AllAt W.heap.size W (.slice a n c) (allL xs) → Calls Tryz.prog 34 #[.slice a n c, .string t, .string u] W fun e w' => e = .returned (.bool (isaQ xs t u)) ∧ Below W.heap.size W w') := fun a n c W hq => by
  have hn' : n = (allL xs).length := by
   obtain ⟨a', c', e⟩ := hq.form
   injection e
  have := hok.len
  exact isa6_calls a n c (allL xs) (by omega) hok.nm hok.ifs t.size t u W W.heap.size (Nat.le_refl _) (Nat.le_refl _) hq hts hus
 generalize isaQ xs t u = ans at *
 clear hall hx hok
 generalize xs.length = n at *
 go_enter Tryz.func16, Tryz.ntmps16
 go_wp2_with fail
 refine hallH.out.mono ?_
 rintro e w1 ⟨⟨v1, rfl, hv1⟩, hb1⟩
 obtain ⟨a1, c1, rfl⟩ := hv1.form
 have hI1 : Hid (Calls Tryz.prog 34 #[.slice a1 (allL xs).length c1, .string t, .string u] w1 fun e w' => e = .returned (.bool ans) ∧ Below w1.heap.size w1 w') := hI.out _ _ _ _ hv1
 generalize (allL xs).length = n1 at *
 clear hI hv1
 go_wp2_with fail
 refine hI1.out.mono ?_
 rintro e w2 ⟨rfl, hb2⟩
 go_wp2
 go_ret
 exact ⟨rfl, below_on2 hb1 hb2⟩
theorem mIA (t u : ByteArray) (v : Value) (xs : List ClassL) (w : World) (lo hi : Nat) (hh : hi ≤ w.heap.size) (hx : ListAt ClassR 7 true lo hi w v xs) (hn : xs.length ≤ 1048576) (hs : ∀ x ∈ xs, x.small) (hw : ∀ x ∈ xs, x.wide) (he : EnvOk w) (hbe : BootEnv w) (hts : t.size ≤ 1048576) (hus : u.size ≤ 1048576) :
  Calls Tryz.prog 17 #[v, .string t, .string u] w fun e w' => e = .returned (.bool (isaQ xs t u)) ∧ Below w.heap.size w w' := by
 have hok := allOk_all hs hw
 have h3 := alL hok
 have hall : Hid (Calls Tryz.prog 28 #[v] w fun e w' => (∃ P, e = .returned (.pointer (some ⟨P, 0, none⟩)) ∧ Calls Tryz.prog 35 #[.pointer (some ⟨P, 0, none⟩), .string t, .string u] w' fun e2 w2 => e2 = .returned (.bool (isaQ xs t u)) ∧ Below w.heap.size w' w2) ∧ Below w.heap.size w w') := by
  refine (spaceOf_calls v xs w lo hi hh hx hn hs hw he hbe).mono ?_
  rintro e w' ⟨⟨b0, P, av, ov, M, J, R, rc, D, hb, rfl, hsp⟩, hb1⟩
  refine ⟨⟨P, rfl, ?_⟩, hb1⟩
  have hbP : b0 ≤ w'.heap.size := by
   have := lt_of hsp.blk
   have := hsp.lo.1
   omega
  have hf : Hid (Calls Tryz.prog 64 #[.pointer (some ⟨P, 0, none⟩), .string t, .string u, .func (.func 65) #[] #[]] w' fun e w2 => e = .returned (.bool (isaQ xs t u)) ∧ Below w.heap.size w' w2) := by
   refine (iAc t u b0 P (allL xs) av ov M J R rc D hok h3 t.size t u w' (Nat.le_refl _) hsp hbP hts hus).mono ?_
   rintro e w2 ⟨rfl, hb2⟩
   exact ⟨by unfold isaQ; rw [isa_same], hb2.mono hb⟩
  generalize isaQ xs t u = ans at *
  clear hsp hok h3 hx
  go_enter Tryz.func35, Tryz.ntmps35
  go_wp2_with fail
  refine hf.out.mono ?_
  rintro e w2 ⟨rfl, hb2⟩
  go_wp2
  go_ret
  exact ⟨rfl, hb2⟩
 generalize isaQ xs t u = ans at *
 obtain ⟨a, c, rfl⟩ := hx.form
 clear hok h3 hx
 generalize xs.length = n at *
 go_enter Tryz.func17, Tryz.ntmps17
 go_wp2_with fail
 refine hall.out.mono ?_
 rintro e w1 ⟨⟨P, rfl, hf⟩, hb1⟩
 have hfH : Hid (Calls Tryz.prog 35 #[.pointer (some ⟨P, 0, none⟩), .string t, .string u] w1 fun e2 w2 => e2 = .returned (.bool ans) ∧ Below w.heap.size w1 w2) := hf
 clear hf hall
 go_wp2_with fail
 refine hfH.out.mono ?_
 rintro e w2 ⟨rfl, hb2⟩
 go_wp2
 go_ret
 exact ⟨rfl, hb1.trans hb2⟩
set_option maxRecDepth 1000000 in
set_option maxHeartbeats 2000000 in
theorem lIA (t u : ByteArray) (v : Value) (xs : List ClassL) (w : World) (hx : ListAt ClassR 7 false 0 w.heap.size w v xs) (hn : xs.length ≤ 9223372036854775807) (hu : ∀ x ∈ xs, x.upto) (hw : ∀ x ∈ xs, x.wide) (he : EnvOk w) (hbe : BootEnv w) :
  Calls Tryz.prog 4 #[v, .string t, .string u] w fun e w' => e = .returned (.bool true) ∧ Below w.heap.size w w' := by
 have inH : Hid (∀ W, Below w.heap.size w W → ListAt ClassR 7 false 0 w.heap.size W v xs) := fun W hW => hx.kept ClassR.stable (Nat.le_refl _) (Nat.le_refl _) (Same.below hW)
 have szH : Hid (Calls Tryz.prog 7 #[v, .int .i64 1048576] w fun e w' => SzQ 1048576 (sumL ClassL.sz xs) e ∧ Below w.heap.size w w') := szClassS_calls v xs w false 0 w.heap.size 1048576 (Nat.le_refl _) hx hn (by omega) (by omega) (fun x hx => szClass_calls x (hu x hx))
 have toH : Hid ((xs.length ≤ 1048576 ∧ ∀ x ∈ xs, x.small) → ∀ W, Below w.heap.size w W → Calls Tryz.prog 9 #[v] W fun e w' => ∃ u, e = .returned u ∧ ListAt ClassR 7 true W.heap.size w'.heap.size w' u xs ∧ Below W.heap.size W w') := fun hs W hW =>
  toClassS_calls v xs W w.heap.size hW.size (inH.out W hW) hs.1 (fun x hx => toClass_calls x w.heap.size (hs.2 x hx))
 have spH : Hid ((xs.length ≤ 1048576 ∧ ∀ x ∈ xs, x.small) → t.size ≤ 1048576 → u.size ≤ 1048576 → ∀ W u1 lo hi, hi ≤ W.heap.size → Below w.heap.size w W → ListAt ClassR 7 true lo hi W u1 xs → Calls Tryz.prog 16 #[u1, .string t, .string u] W fun e w' => e = .returned (.bool (isaQ xs t u)) ∧ Below W.heap.size W w') := fun hs h1 h2 W u1 lo hi hh hW hr => sIA t u u1 xs W lo hi hh hr hs.1 hs.2 hw (hbe.kept hW) h1 h2
 have imH : Hid ((xs.length ≤ 1048576 ∧ ∀ x ∈ xs, x.small) → t.size ≤ 1048576 → u.size ≤ 1048576 → ∀ W u1 lo hi, hi ≤ W.heap.size → Below w.heap.size w W → ListAt ClassR 7 true lo hi W u1 xs → Calls Tryz.prog 17 #[u1, .string t, .string u] W fun e w' => e = .returned (.bool (isaQ xs t u)) ∧ Below W.heap.size W w') := fun hs h1 h2 W u1 lo hi hh hW hr => mIA t u u1 xs W lo hi hh hr hs.1 hs.2 hw (he.kept hW) (hbe.kept hW) h1 h2
 have eqH : Hid ((xs.length ≤ 1048576 ∧ ∀ x ∈ xs, x.small) → ∀ W u1 u2 lo1 hi1 lo2 hi2, hi1 ≤ W.heap.size → hi2 ≤ W.heap.size → ListAt ClassR 7 true lo1 hi1 W u1 xs → ListAt ClassR 7 true lo2 hi2 W u2 xs → Calls Tryz.prog 12 #[u1, u2] W fun e w' => e = .returned (.bool true) ∧ Below W.heap.size W w') := fun hs W u1 u2 lo1 hi1 lo2 hi2 g1 g2 q1 q2 =>
  eqClassS_calls u1 u2 xs W lo1 hi1 lo2 hi2 g1 g2 q1 q2 hs.1 (fun x hx => eqClass_calls x (hs.2 x hx))
 generalize isaQ xs t u = mb at *
 obtain ⟨a, c, rfl⟩ := hx.form
 have hslH : Hid (sumL ClassL.sz xs ≤ 1048576 → (xs.length ≤ 1048576 ∧ ∀ x ∈ xs, x.small)) := fun h => by
  have := sumL_le (f := ClassL.sz) (xs := xs) (n := 1048576) h
  exact ⟨this.1, fun x hx => ClassL.small_of_sz (this.2 x hx)⟩
 clear hx hu hw he hbe inH hn
 generalize sumL ClassL.sz xs = z at *
 generalize xs.length = n at *
 by_cases hts : (1048576 : Int) < (t.size : Int)
 ·go_enter Tryz.func4, Tryz.ntmps4
  go_wp2
  go_ret
  exact ⟨rfl, Below.refl _ _⟩
 by_cases hus : (1048576 : Int) < (u.size : Int)
 ·go_enter Tryz.func4, Tryz.ntmps4
  go_wp2
  go_ret
  exact ⟨rfl, Below.refl _ _⟩
 have htsH : Hid (t.size ≤ 1048576 ∧ u.size ≤ 1048576) := ⟨by omega, by omega⟩
 go_enter Tryz.func4, Tryz.ntmps4
 go_wp2_with fail
 refine szH.out.mono ?_
 rintro e w1 ⟨⟨r, rfl, hr1, hr2⟩, hb1⟩
 by_cases hbig : (1048576 : Int) < z
 ·obtain rfl := hr1 hbig
  go_wp2
  go_ret
  exact ⟨rfl, hb1⟩
 obtain rfl := hr2 (by omega)
 have hsm := hslH.out (by omega)
 have toK := (show Hid _ from toH.out hsm)
 have spK := (show Hid _ from spH.out hsm htsH.out.1 htsH.out.2)
 have imK := (show Hid _ from imH.out hsm htsH.out.1 htsH.out.2)
 have eqK := (show Hid _ from eqH.out hsm)
 have hpos : (0 : Int) ≤ 1048576 - z := by omega
 have hb1H : Hid (Below w.heap.size w w1) := hb1
 clear toH spH imH eqH hr1 hr2 szH hsm hslH hb1
 go_wp2_with fail
 refine (toK.out w1 hb1H.out).mono ?_
 rintro e w2 ⟨u2, rfl, l2, hb2⟩
 have hb2H : Hid (Below w.heap.size w w2) := below_on2 hb1H.out hb2
 have sp2 : Hid (Calls Tryz.prog 16 #[u2, .string t, .string u] w2 fun e w' => e = .returned (.bool mb) ∧ Below w2.heap.size w2 w') := spK.out w2 u2 _ _ (Nat.le_refl _) hb2H.out l2
 obtain ⟨a2, c2, rfl⟩ := l2.form
 clear l2 hb2
 go_wp2_with fail
 refine sp2.out.mono ?_
 rintro e w3 ⟨rfl, hb3⟩
 have hb3H : Hid (Below w.heap.size w w3) := below_on2 hb2H.out hb3
 clear hb3 sp2
 go_wp2_with fail
 refine (toK.out w3 hb3H.out).mono ?_
 rintro e w4 ⟨u4, rfl, l4, hb4⟩
 have hb4H : Hid (Below w.heap.size w w4) := below_on2 hb3H.out hb4
 have im4 : Hid (Calls Tryz.prog 17 #[u4, .string t, .string u] w4 fun e w' => e = .returned (.bool mb) ∧ Below w4.heap.size w4 w') := imK.out w4 u4 _ _ (Nat.le_refl _) hb4H.out l4
 have l4H : Hid (ListAt ClassR 7 true w3.heap.size w4.heap.size w4 u4 xs) := l4
 obtain ⟨a4, c4, rfl⟩ := l4.form
 clear l4 hb4
 go_wp2_with fail
 refine im4.out.mono ?_
 rintro e w5 ⟨rfl, hb5⟩
 have hb5H : Hid (Below w.heap.size w w5) := below_on2 hb4H.out hb5
 have l5H : Hid (∀ W, Below w5.heap.size w5 W → w4.heap.size ≤ W.heap.size ∧ ListAt ClassR 7 true w3.heap.size w4.heap.size W _ xs) := fun W hW => ⟨Nat.le_trans hb5.size hW.size, l4H.out.kept ClassR.stable (Nat.le_refl _) (Nat.le_refl _) ((Same.below (below_on2 hb5 hW)).mono (Nat.zero_le _) (Nat.le_refl _))⟩
 have hxx : (mb != mb) = false := by simp
 clear hb5 im4 l4H
 go_wp2_with fail
 refine (toK.out w5 hb5H.out).mono ?_
 rintro e w6 ⟨u6, rfl, l6, hb6⟩
 have eq6 : Hid (Calls Tryz.prog 12 #[_, u6] w6 fun e w' => e = .returned (.bool true) ∧ Below w6.heap.size w6 w') := eqK.out w6 _ u6 _ _ _ _ (l5H.out w6 hb6).1 (Nat.le_refl _) (l5H.out w6 hb6).2 l6
 obtain ⟨a6, c6, rfl⟩ := l6.form
 have hb6H : Hid (Below w.heap.size w w6) := below_on2 hb5H.out hb6
 clear l6 hb6
 go_wp2_with fail
 refine eq6.out.mono ?_
 rintro e w7 ⟨rfl, hb7⟩
 go_wp2
 go_ret
 exact ⟨rfl, below_on2 hb6H.out hb7⟩
end Go.Proofs.YtjjccimeikkogaaGreatDoor
