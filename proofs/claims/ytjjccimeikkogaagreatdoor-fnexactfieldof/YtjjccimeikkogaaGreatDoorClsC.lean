import Derived.Test.YtjjccimeikkogaaGreatDoorClsA
set_option maxRecDepth 1000000
set_option maxHeartbeats 4000000
namespace Go.Proofs.YtjjccimeikkogaaGreatDoor
set_option linter.unusedVariables false
open Go.ChangeShapes Go.WideShapes Go.ChangeAt Go.RowKit
theorem eqField_calls (x : FieldL) : ElemEq 22 3 FieldR x := by
 intro w r1 r2 lo1 hi1 lo2 hi2 h1 h2 hx1 hx2 hl1 hl2
 obtain rfl : r1 = [.string x.name, .string x.ty, .int .i64 x.flags] := hx1
 obtain rfl : r2 = [.string x.name, .string x.ty, .int .i64 x.flags] := hx2
 have b0 : (x.name.toList != x.name.toList) = false := by simp
 have b1 : (x.ty.toList != x.ty.toList) = false := by simp
 have b2 : (x.flags != x.flags) = false := by simp
 clear hl1 hl2 h1 h2
 go_enter Tryz.func22, Tryz.ntmps22
 go_wp2
 go_ret
 exact ⟨rfl, below_2 _ _ _⟩
theorem eqFieldS_calls (u v : Value) (xs : List FieldL) (w : World) (lo1 hi1 lo2 hi2 : Nat) (h1 : hi1 ≤ w.heap.size) (h2 : hi2 ≤ w.heap.size) (hu : ListAt FieldR 3 true lo1 hi1 w u xs) (hv : ListAt FieldR 3 true lo2 hi2 w v xs) (hn : xs.length ≤ 1048576) (hel : ∀ x ∈ xs, ElemEq 22 3 FieldR x) :
  Calls Tryz.prog 55 #[u, v] w fun e w' => e = .returned (.bool true) ∧ Below w.heap.size w w' := by
 obtain ⟨a, c, rfl⟩ := hu.form
 obtain ⟨a2, c2, rfl⟩ := hv.form
 have helH : Hid (∀ x ∈ xs, ElemEq 22 3 FieldR x) := hel
 have huH : Hid (∀ wr, Below w.heap.size w wr → ListAt FieldR 3 true lo1 hi1 wr (.slice a xs.length c) xs) := fun wr hw => hu.kept FieldR.stable (Nat.le_refl _) (Nat.le_refl _) ((Same.below hw).mono (Nat.zero_le _) h1)
 have hvH : Hid (∀ wr, Below w.heap.size w wr → ListAt FieldR 3 true lo2 hi2 wr (.slice a2 xs.length c2) xs) := fun wr hw => hv.kept FieldR.stable (Nat.le_refl _) (Nat.le_refl _) ((Same.below hw).mono (Nat.zero_le _) h2)
 have hhH : Hid (hi1 ≤ w.heap.size ∧ hi2 ≤ w.heap.size) := ⟨h1, h2⟩
 clear hu hv hel h1 h2
 go_enter Tryz.func55, Tryz.ntmps55
 go_wp2
 go_loopw [5] (fun i wr => ∃ m : Nat, m ≤ xs.length ∧ i = .int .i64 m ∧ Hid (Below w.heap.size w wr)) (fun i _ => xs.length - (intOf i).toNat)
 case atStart => exact ⟨0, Nat.zero_le _, rfl, Below.refl _ _⟩
 case round =>
  obtain ⟨m, hm, rfl, hB⟩ := hrel
  by_cases hlt : m < xs.length
  ·obtain ⟨b, off, r1, rfl, hb1, hl1, hr1, hx1⟩ := (huH.out wr hB.out).at m hlt
   obtain ⟨b', off', r2, rfl, hb2, hl2, hr2, hx2⟩ := (hvH.out wr hB.out).at m hlt
   have hlt' : (m : Int) < (xs.length : Int) := by omega
   have hsz := hB.out.size
   have hcH : Hid (∀ W, Below wr.heap.size wr W → Calls Tryz.prog 22 #[.agg r1.toArray, .agg r2.toArray] W fun e w' => e = .returned (.bool true) ∧ Below W.heap.size W w') := fun W hW =>
    helH.out xs[m] (List.getElem_mem hlt) W r1 r2 lo1 hi1 lo2 hi2 (by have := hW.size; have := hhH.out.1; omega) (by have := hW.size; have := hhH.out.2; omega)
     (FieldR.stable _ _ _ _ _ _ _ _ _ hx1 (Nat.le_refl _) (Nat.le_refl _) ((Same.below hW).mono (Nat.zero_le _) (by have := hhH.out.1; omega)))
     (FieldR.stable _ _ _ _ _ _ _ _ _ hx2 (Nat.le_refl _) (Nat.le_refl _) ((Same.below hW).mono (Nat.zero_le _) (by have := hhH.out.2; omega))) hl1 hl2
   obtain ⟨x, hx⟩ : ∃ x, x = xs[m] := ⟨_, rfl⟩
   rw [← hx] at hx1 hx2
   obtain rfl : r1 = [.string x.name, .string x.ty, .int .i64 x.flags] := hx1
   obtain rfl : r2 = [.string x.name, .string x.ty, .int .i64 x.flags] := hx2
   have hmk : Hid (∀ W, Below wr.heap.size wr W → (Below wr.heap.size wr W ∧ W.cell? ⟨b, off + m * 3, none⟩ = some (.string x.name) ∧ W.cell? ⟨b, off + m * 3 + 1, none⟩ = some (.string x.ty) ∧ W.cell? ⟨b, off + m * 3 + 2, none⟩ = some (.int .i64 x.flags) ∧ W.cell? ⟨b', off' + m * 3, none⟩ = some (.string x.name) ∧ W.cell? ⟨b', off' + m * 3 + 1, none⟩ = some (.string x.ty) ∧ W.cell? ⟨b', off' + m * 3 + 2, none⟩ = some (.int .i64 x.flags))) := fun W hW => by
    have kp1 := rangeAt_same (Same.below hW) (Nat.zero_le _) (show b < wr.heap.size by have := hhH.out.1; omega) hr1
    have kp2 := rangeAt_same (Same.below hW) (Nat.zero_le _) (show b' < wr.heap.size by have := hhH.out.2; omega) hr2
    exact ⟨hW, kp1 0 _ rfl, kp1 1 _ rfl, kp1 2 _ rfl, kp2 0 _ rfl, kp2 1 _ rfl, kp2 2 _ rfl⟩
   clear hr1 hr2 hl1 hl2 hsz hb1 hb2 hx
   have hS0 := hmk.out wr (Below.refl _ _)
   go_wp2
   go_region_held3 (fun W => Below wr.heap.size wr W ∧ W.cell? ⟨b, off + m * 3, none⟩ = some (.string x.name) ∧ W.cell? ⟨b, off + m * 3 + 1, none⟩ = some (.string x.ty) ∧ W.cell? ⟨b, off + m * 3 + 2, none⟩ = some (.int .i64 x.flags) ∧ W.cell? ⟨b', off' + m * 3, none⟩ = some (.string x.name) ∧ W.cell? ⟨b', off' + m * 3 + 1, none⟩ = some (.string x.ty) ∧ W.cell? ⟨b', off' + m * 3 + 2, none⟩ = some (.int .i64 x.flags)) (first | assumption | exact hmk.out _ (Below.drew (And.left (by assumption))) | exact hmk.out _ (below_on (And.left (by assumption)) (by assumption))) (first | (go_at_call 22; refine (hcH.out _ (by first | exact Below.refl _ _ | assumption | exact And.left (by assumption))).mono ?_; rintro e w2 ⟨rfl, hb2⟩))
   go_wp2
   go_roundw
   case rel => exact ⟨m + 1, by omega, by go_num, below_on hB.out (by first | assumption | exact And.left (by assumption))⟩
   case measure => simp [intOf]; omega
  ·go_wp2
   go_ret
   exact ⟨rfl, hB.out⟩
theorem eqMethS_calls (u v : Value) (xs : List MethL) (w : World) (lo1 hi1 lo2 hi2 : Nat) (h1 : hi1 ≤ w.heap.size) (h2 : hi2 ≤ w.heap.size) (hu : ListAt MethR 9 true lo1 hi1 w u xs) (hv : ListAt MethR 9 true lo2 hi2 w v xs) (hn : xs.length ≤ 1048576) (hel : ∀ x ∈ xs, ElemEq 87 9 MethR x) :
  Calls Tryz.prog 56 #[u, v] w fun e w' => e = .returned (.bool true) ∧ Below w.heap.size w w' := by
 obtain ⟨a, c, rfl⟩ := hu.form
 obtain ⟨a2, c2, rfl⟩ := hv.form
 have helH : Hid (∀ x ∈ xs, ElemEq 87 9 MethR x) := hel
 have huH : Hid (∀ wr, Below w.heap.size w wr → ListAt MethR 9 true lo1 hi1 wr (.slice a xs.length c) xs) := fun wr hw => hu.kept MethR.stable (Nat.le_refl _) (Nat.le_refl _) ((Same.below hw).mono (Nat.zero_le _) h1)
 have hvH : Hid (∀ wr, Below w.heap.size w wr → ListAt MethR 9 true lo2 hi2 wr (.slice a2 xs.length c2) xs) := fun wr hw => hv.kept MethR.stable (Nat.le_refl _) (Nat.le_refl _) ((Same.below hw).mono (Nat.zero_le _) h2)
 have hhH : Hid (hi1 ≤ w.heap.size ∧ hi2 ≤ w.heap.size) := ⟨h1, h2⟩
 clear hu hv hel h1 h2
 go_enter Tryz.func56, Tryz.ntmps56
 go_wp2
 go_loopw [5] (fun i wr => ∃ m : Nat, m ≤ xs.length ∧ i = .int .i64 m ∧ Hid (Below w.heap.size w wr)) (fun i _ => xs.length - (intOf i).toNat)
 case atStart => exact ⟨0, Nat.zero_le _, rfl, Below.refl _ _⟩
 case round =>
  obtain ⟨m, hm, rfl, hB⟩ := hrel
  by_cases hlt : m < xs.length
  ·obtain ⟨b, off, r1, rfl, hb1, hl1, hr1, hx1⟩ := (huH.out wr hB.out).at m hlt
   obtain ⟨b', off', r2, rfl, hb2, hl2, hr2, hx2⟩ := (hvH.out wr hB.out).at m hlt
   have hlt' : (m : Int) < (xs.length : Int) := by omega
   have hsz := hB.out.size
   have hcH : Hid (∀ W, Below wr.heap.size wr W → Calls Tryz.prog 87 #[.agg r1.toArray, .agg r2.toArray] W fun e w' => e = .returned (.bool true) ∧ Below W.heap.size W w') := fun W hW =>
    helH.out xs[m] (List.getElem_mem hlt) W r1 r2 lo1 hi1 lo2 hi2 (by have := hW.size; have := hhH.out.1; omega) (by have := hW.size; have := hhH.out.2; omega)
     (MethR.stable _ _ _ _ _ _ _ _ _ hx1 (Nat.le_refl _) (Nat.le_refl _) ((Same.below hW).mono (Nat.zero_le _) (by have := hhH.out.1; omega)))
     (MethR.stable _ _ _ _ _ _ _ _ _ hx2 (Nat.le_refl _) (Nat.le_refl _) ((Same.below hW).mono (Nat.zero_le _) (by have := hhH.out.2; omega))) hl1 hl2
   obtain ⟨x, hx⟩ : ∃ x, x = xs[m] := ⟨_, rfl⟩
   rw [← hx] at hx1 hx2
   obtain ⟨p1, q1, s1, t1, rfl, -⟩ := hx1
   obtain ⟨p2, q2, s2, t2, rfl, -⟩ := hx2
   have hmk : Hid (∀ W, Below wr.heap.size wr W → (Below wr.heap.size wr W ∧ W.cell? ⟨b, off + m * 9, none⟩ = some (.string x.name) ∧ W.cell? ⟨b, off + m * 9 + 1, none⟩ = some (.string x.sig) ∧ W.cell? ⟨b, off + m * 9 + 2, none⟩ = some (.int .i64 x.flags) ∧ W.cell? ⟨b, off + m * 9 + 3, none⟩ = some (.int .i64 x.stack) ∧ W.cell? ⟨b, off + m * 9 + 4, none⟩ = some (.int .i64 x.locals) ∧ W.cell? ⟨b, off + m * 9 + 5, none⟩ = some (p1) ∧ W.cell? ⟨b, off + m * 9 + 6, none⟩ = some (q1) ∧ W.cell? ⟨b, off + m * 9 + 7, none⟩ = some (s1) ∧ W.cell? ⟨b, off + m * 9 + 8, none⟩ = some (t1) ∧ W.cell? ⟨b', off' + m * 9, none⟩ = some (.string x.name) ∧ W.cell? ⟨b', off' + m * 9 + 1, none⟩ = some (.string x.sig) ∧ W.cell? ⟨b', off' + m * 9 + 2, none⟩ = some (.int .i64 x.flags) ∧ W.cell? ⟨b', off' + m * 9 + 3, none⟩ = some (.int .i64 x.stack) ∧ W.cell? ⟨b', off' + m * 9 + 4, none⟩ = some (.int .i64 x.locals) ∧ W.cell? ⟨b', off' + m * 9 + 5, none⟩ = some (p2) ∧ W.cell? ⟨b', off' + m * 9 + 6, none⟩ = some (q2) ∧ W.cell? ⟨b', off' + m * 9 + 7, none⟩ = some (s2) ∧ W.cell? ⟨b', off' + m * 9 + 8, none⟩ = some (t2))) := fun W hW => by
    have kp1 := rangeAt_same (Same.below hW) (Nat.zero_le _) (show b < wr.heap.size by have := hhH.out.1; omega) hr1
    have kp2 := rangeAt_same (Same.below hW) (Nat.zero_le _) (show b' < wr.heap.size by have := hhH.out.2; omega) hr2
    exact ⟨hW, kp1 0 _ rfl, kp1 1 _ rfl, kp1 2 _ rfl, kp1 3 _ rfl, kp1 4 _ rfl, kp1 5 _ rfl, kp1 6 _ rfl, kp1 7 _ rfl, kp1 8 _ rfl, kp2 0 _ rfl, kp2 1 _ rfl, kp2 2 _ rfl, kp2 3 _ rfl, kp2 4 _ rfl, kp2 5 _ rfl, kp2 6 _ rfl, kp2 7 _ rfl, kp2 8 _ rfl⟩
   clear hr1 hr2 hl1 hl2 hsz hb1 hb2 hx
   have hS0 := hmk.out wr (Below.refl _ _)
   go_wp2
   go_region_held3 (fun W => Below wr.heap.size wr W ∧ W.cell? ⟨b, off + m * 9, none⟩ = some (.string x.name) ∧ W.cell? ⟨b, off + m * 9 + 1, none⟩ = some (.string x.sig) ∧ W.cell? ⟨b, off + m * 9 + 2, none⟩ = some (.int .i64 x.flags) ∧ W.cell? ⟨b, off + m * 9 + 3, none⟩ = some (.int .i64 x.stack) ∧ W.cell? ⟨b, off + m * 9 + 4, none⟩ = some (.int .i64 x.locals) ∧ W.cell? ⟨b, off + m * 9 + 5, none⟩ = some (p1) ∧ W.cell? ⟨b, off + m * 9 + 6, none⟩ = some (q1) ∧ W.cell? ⟨b, off + m * 9 + 7, none⟩ = some (s1) ∧ W.cell? ⟨b, off + m * 9 + 8, none⟩ = some (t1) ∧ W.cell? ⟨b', off' + m * 9, none⟩ = some (.string x.name) ∧ W.cell? ⟨b', off' + m * 9 + 1, none⟩ = some (.string x.sig) ∧ W.cell? ⟨b', off' + m * 9 + 2, none⟩ = some (.int .i64 x.flags) ∧ W.cell? ⟨b', off' + m * 9 + 3, none⟩ = some (.int .i64 x.stack) ∧ W.cell? ⟨b', off' + m * 9 + 4, none⟩ = some (.int .i64 x.locals) ∧ W.cell? ⟨b', off' + m * 9 + 5, none⟩ = some (p2) ∧ W.cell? ⟨b', off' + m * 9 + 6, none⟩ = some (q2) ∧ W.cell? ⟨b', off' + m * 9 + 7, none⟩ = some (s2) ∧ W.cell? ⟨b', off' + m * 9 + 8, none⟩ = some (t2)) (first | assumption | exact hmk.out _ (Below.drew (And.left (by assumption))) | exact hmk.out _ (below_on (And.left (by assumption)) (by assumption))) (first | (go_at_call 87; refine (hcH.out _ (by first | exact Below.refl _ _ | assumption | exact And.left (by assumption))).mono ?_; rintro e w2 ⟨rfl, hb2⟩))
   go_wp2
   go_roundw
   case rel => exact ⟨m + 1, by omega, by go_num, below_on hB.out (by first | assumption | exact And.left (by assumption))⟩
   case measure => simp [intOf]; omega
  ·go_wp2
   go_ret
   exact ⟨rfl, hB.out⟩
theorem eqStrsB_calls (u v : Value) (xs : List ByteArray) (w : World) (lo1 hi1 lo2 hi2 : Nat) (h1 : hi1 ≤ w.heap.size) (h2 : hi2 ≤ w.heap.size) (hu : StrsAt true lo1 hi1 w u xs) (hv : StrsAt true lo2 hi2 w v xs) (hx : xs.length ≤ 1048576) :
  Calls Tryz.prog 11 #[u, v] w fun e w' => e = .returned (.bool true) ∧ Below w.heap.size w w' := by
 refine (eqStrs_calls u v xs w true true lo1 hi1 lo2 hi2 hu.1 hv.1 hx).mono ?_
 rintro e w' ⟨rfl, n, rfl⟩
 exact ⟨rfl, below_drewN (Below.refl _ _) n⟩
theorem eqClass_calls (x : ClassL) (hy : x.small) : ElemEq 30 7 ClassR x := by
 intro w r1 r2 lo1 hi1 lo2 hi2 h1 h2 hx1 hx2 hl1 hl2
 obtain ⟨v1_2, v1_4, v1_5, v1_6, rfl, g1_2, g1_4, g1_5, g1_6⟩ := hx1
 obtain ⟨v2_2, v2_4, v2_5, v2_6, rfl, g2_2, g2_4, g2_5, g2_6⟩ := hx2
 have c2 : Hid (∀ W, Below w.heap.size w W → Calls Tryz.prog 11 #[v1_2, v2_2] W fun e w' => e = .returned (.bool true) ∧ Below W.heap.size W w') := fun W hW =>
  eqStrsB_calls v1_2 v2_2 x.ifs W lo1 hi1 lo2 hi2 (Nat.le_trans h1 hW.size) (Nat.le_trans h2 hW.size) (g1_2.kept StrR.stable (Nat.le_refl _) (Nat.le_refl _) ((Same.below hW).mono (Nat.zero_le _) h1)) (g2_2.kept StrR.stable (Nat.le_refl _) (Nat.le_refl _) ((Same.below hW).mono (Nat.zero_le _) h2)) hy.2.2.1.1
 have c4 : Hid (∀ W, Below w.heap.size w W → Calls Tryz.prog 11 #[v1_4, v2_4] W fun e w' => e = .returned (.bool true) ∧ Below W.heap.size W w') := fun W hW =>
  eqStrsB_calls v1_4 v2_4 x.perms W lo1 hi1 lo2 hi2 (Nat.le_trans h1 hW.size) (Nat.le_trans h2 hW.size) (g1_4.kept StrR.stable (Nat.le_refl _) (Nat.le_refl _) ((Same.below hW).mono (Nat.zero_le _) h1)) (g2_4.kept StrR.stable (Nat.le_refl _) (Nat.le_refl _) ((Same.below hW).mono (Nat.zero_le _) h2)) hy.2.2.2.1.1
 have c5 : Hid (∀ W, Below w.heap.size w W → Calls Tryz.prog 55 #[v1_5, v2_5] W fun e w' => e = .returned (.bool true) ∧ Below W.heap.size W w') := fun W hW =>
  eqFieldS_calls v1_5 v2_5 x.fields W lo1 hi1 lo2 hi2 (Nat.le_trans h1 hW.size) (Nat.le_trans h2 hW.size) (g1_5.kept FieldR.stable (Nat.le_refl _) (Nat.le_refl _) ((Same.below hW).mono (Nat.zero_le _) h1)) (g2_5.kept FieldR.stable (Nat.le_refl _) (Nat.le_refl _) ((Same.below hW).mono (Nat.zero_le _) h2)) hy.2.2.2.2.1.1 (fun y hy1 => eqField_calls y)
 have c6 : Hid (∀ W, Below w.heap.size w W → Calls Tryz.prog 56 #[v1_6, v2_6] W fun e w' => e = .returned (.bool true) ∧ Below W.heap.size W w') := fun W hW =>
  eqMethS_calls v1_6 v2_6 x.meths W lo1 hi1 lo2 hi2 (Nat.le_trans h1 hW.size) (Nat.le_trans h2 hW.size) (g1_6.kept MethR.stable (Nat.le_refl _) (Nat.le_refl _) ((Same.below hW).mono (Nat.zero_le _) h1)) (g2_6.kept MethR.stable (Nat.le_refl _) (Nat.le_refl _) ((Same.below hW).mono (Nat.zero_le _) h2)) hy.2.2.2.2.2.1 (fun y hy1 => eqMeth_calls y (hy.2.2.2.2.2.2 y hy1))
 obtain ⟨a1_2, k1_2, rfl⟩ := g1_2.form
 obtain ⟨a2_2, k2_2, rfl⟩ := g2_2.form
 obtain ⟨a1_4, k1_4, rfl⟩ := g1_4.form
 obtain ⟨a2_4, k2_4, rfl⟩ := g2_4.form
 obtain ⟨a1_5, k1_5, rfl⟩ := g1_5.form
 obtain ⟨a2_5, k2_5, rfl⟩ := g2_5.form
 obtain ⟨a1_6, k1_6, rfl⟩ := g1_6.form
 obtain ⟨a2_6, k2_6, rfl⟩ := g2_6.form
 have b0 : (x.name.toList != x.name.toList) = false := by simp
 have b1 : (x.super.toList != x.super.toList) = false := by simp
 have b3 : (x.flags != x.flags) = false := by simp
 clear hl1 hl2 h1 h2 g1_2 g2_2 g1_4 g2_4 g1_5 g2_5 g1_6 g2_6
 go_enter Tryz.func30, Tryz.ntmps30
 go_wp2_with fail
 obtain ⟨W0, hW0⟩ : ∃ W : World, W = (w.alloc (.cells #[.string x.name, .string x.super, .slice a1_2 x.ifs.length k1_2, .int .i64 x.flags, .slice a1_4 x.perms.length k1_4, .slice a1_5 x.fields.length k1_5, .slice a1_6 x.meths.length k1_6] 49)).alloc (.cells #[.string x.name, .string x.super, .slice a2_2 x.ifs.length k2_2, .int .i64 x.flags, .slice a2_4 x.perms.length k2_4, .slice a2_5 x.fields.length k2_5, .slice a2_6 x.meths.length k2_6] 49) := ⟨_, rfl⟩
 rw [← hW0]
 have r0 : Hid (Rec2 w W0 [.string x.name, .string x.super, .slice a1_2 x.ifs.length k1_2, .int .i64 x.flags, .slice a1_4 x.perms.length k1_4, .slice a1_5 x.fields.length k1_5, .slice a1_6 x.meths.length k1_6] [.string x.name, .string x.super, .slice a2_2 x.ifs.length k2_2, .int .i64 x.flags, .slice a2_4 x.perms.length k2_4, .slice a2_5 x.fields.length k2_5, .slice a2_6 x.meths.length k2_6]) := Rec2.start hW0
 clear hW0
 refine (c2.out W0 r0.out.hb).mono ?_
 rintro e w1 ⟨rfl, hb1⟩
 have r1 : Hid (Rec2 w w1 [.string x.name, .string x.super, .slice a1_2 x.ifs.length k1_2, .int .i64 x.flags, .slice a1_4 x.perms.length k1_4, .slice a1_5 x.fields.length k1_5, .slice a1_6 x.meths.length k1_6] [.string x.name, .string x.super, .slice a2_2 x.ifs.length k2_2, .int .i64 x.flags, .slice a2_4 x.perms.length k2_4, .slice a2_5 x.fields.length k2_5, .slice a2_6 x.meths.length k2_6]) := r0.out.call hb1
 have y1_3 := r1.out.cell1 3 _ rfl
 have z1_3 := r1.out.cell2 3 _ rfl
 have y1_4 := r1.out.cell1 4 _ rfl
 have z1_4 := r1.out.cell2 4 _ rfl
 have y1_5 := r1.out.cell1 5 _ rfl
 have z1_5 := r1.out.cell2 5 _ rfl
 have y1_6 := r1.out.cell1 6 _ rfl
 have z1_6 := r1.out.cell2 6 _ rfl
 clear hb1
 go_wp2_with fail
 clear y1_3 z1_3
 clear y1_4 z1_4
 clear y1_5 z1_5
 clear y1_6 z1_6
 refine (c4.out w1 r1.out.hb).mono ?_
 rintro e w2 ⟨rfl, hb2⟩
 have r2 : Hid (Rec2 w w2 [.string x.name, .string x.super, .slice a1_2 x.ifs.length k1_2, .int .i64 x.flags, .slice a1_4 x.perms.length k1_4, .slice a1_5 x.fields.length k1_5, .slice a1_6 x.meths.length k1_6] [.string x.name, .string x.super, .slice a2_2 x.ifs.length k2_2, .int .i64 x.flags, .slice a2_4 x.perms.length k2_4, .slice a2_5 x.fields.length k2_5, .slice a2_6 x.meths.length k2_6]) := r1.out.call hb2
 have y2_5 := r2.out.cell1 5 _ rfl
 have z2_5 := r2.out.cell2 5 _ rfl
 have y2_6 := r2.out.cell1 6 _ rfl
 have z2_6 := r2.out.cell2 6 _ rfl
 clear hb2
 go_wp2_with fail
 clear y2_5 z2_5
 clear y2_6 z2_6
 refine (c5.out w2 r2.out.hb).mono ?_
 rintro e w3 ⟨rfl, hb3⟩
 have r3 : Hid (Rec2 w w3 [.string x.name, .string x.super, .slice a1_2 x.ifs.length k1_2, .int .i64 x.flags, .slice a1_4 x.perms.length k1_4, .slice a1_5 x.fields.length k1_5, .slice a1_6 x.meths.length k1_6] [.string x.name, .string x.super, .slice a2_2 x.ifs.length k2_2, .int .i64 x.flags, .slice a2_4 x.perms.length k2_4, .slice a2_5 x.fields.length k2_5, .slice a2_6 x.meths.length k2_6]) := r2.out.call hb3
 have y3_6 := r3.out.cell1 6 _ rfl
 have z3_6 := r3.out.cell2 6 _ rfl
 clear hb3
 go_wp2_with fail
 clear y3_6 z3_6
 refine (c6.out w3 r3.out.hb).mono ?_
 rintro e w4 ⟨rfl, hb4⟩
 have r4 : Hid (Rec2 w w4 [.string x.name, .string x.super, .slice a1_2 x.ifs.length k1_2, .int .i64 x.flags, .slice a1_4 x.perms.length k1_4, .slice a1_5 x.fields.length k1_5, .slice a1_6 x.meths.length k1_6] [.string x.name, .string x.super, .slice a2_2 x.ifs.length k2_2, .int .i64 x.flags, .slice a2_4 x.perms.length k2_4, .slice a2_5 x.fields.length k2_5, .slice a2_6 x.meths.length k2_6]) := r3.out.call hb4
 clear hb4
 go_wp2
 go_ret
 exact ⟨rfl, r4.out.hb⟩
def FieldL.sz (x : FieldL) : Nat := x.name.size + x.ty.size
def FieldL.upto (x : FieldL) : Prop := x.name.size ≤ 9223372036854775807 ∧ x.ty.size ≤ 9223372036854775807
def ClassL.sz (x : ClassL) : Nat := x.name.size + x.super.size + sumL ByteArray.size x.ifs + sumL ByteArray.size x.perms + sumL FieldL.sz x.fields + sumL MethL.sz x.meths
def ClassL.upto (x : ClassL) : Prop := x.name.size ≤ 9223372036854775807 ∧ x.super.size ≤ 9223372036854775807 ∧ (x.ifs.length ≤ 9223372036854775807 ∧ ∀ s ∈ x.ifs, s.size ≤ 9223372036854775807) ∧ (x.perms.length ≤ 9223372036854775807 ∧ ∀ s ∈ x.perms, s.size ≤ 9223372036854775807) ∧ (x.fields.length ≤ 9223372036854775807 ∧ ∀ y ∈ x.fields, y.upto) ∧ (x.meths.length ≤ 9223372036854775807 ∧ ∀ y ∈ x.meths, y.upto)
theorem szFieldS_calls (v : Value) (xs : List FieldL) (w : World) (own : Bool) (lo hi : Nat) (l : Int) (hh : hi ≤ w.heap.size) (ht : ListAt FieldR 3 own lo hi w v xs) (hn : xs.length ≤ 9223372036854775807) (hl0 : 0 ≤ l) (hl1 : l ≤ 1048576) (hel : ∀ x ∈ xs, ElemSz 69 3 FieldR FieldL.sz x) :
  Calls Tryz.prog 41 #[v, .int .i64 l] w fun e w' => SzQ l (sumL FieldL.sz xs) e ∧ Below w.heap.size w w' := by
 have hldH : Hid ((Tryz.prog.info? 100).map (·.size) = some 3) := by show (Tryz.prog.info? 100).map (·.size) = some 3; kernel_rfl
 obtain ⟨a, c, rfl⟩ := ht.form
 have helH : Hid (∀ x ∈ xs, ElemSz 69 3 FieldR FieldL.sz x) := hel
 have htH : Hid (∀ wr, Below w.heap.size w wr → ListAt FieldR 3 own lo hi wr (.slice a xs.length c) xs) := fun wr hw => ht.kept FieldR.stable (Nat.le_refl _) (Nat.le_refl _) ((Same.below hw).mono (Nat.zero_le _) hh)
 have hhH : Hid (hi ≤ w.heap.size) := hh
 clear ht hel hh
 by_cases hc : l < xs.length
 ·go_enter Tryz.func41, Tryz.ntmps41
  go_wp2
  go_ret
  exact ⟨SzQ.neg (by unfold sumL; omega), Below.refl _ _⟩
 go_enter Tryz.func41, Tryz.ntmps41
 go_wp2
 go_loopw [1, 5] (fun q i wr => ∃ (m : Nat) (z : Int), m ≤ xs.length ∧ q = .int .i64 z ∧ 0 ≤ z ∧ z ≤ 1048576 ∧ Hid (z = l - (xs.length + ((xs.take m).map FieldL.sz).sum : Nat)) ∧ i = .int .i64 m ∧ Hid (Below w.heap.size w wr)) (fun _ i _ => xs.length - (intOf i).toNat)
 case atStart => exact ⟨0, _, Nat.zero_le _, rfl, by omega, by omega, by simp [Hid], rfl, Below.refl _ _⟩
 case round =>
  obtain ⟨m, z, hm, rfl, hz0, hz1, hz, rfl, hB⟩ := hrel
  by_cases hlt : m < xs.length
  ·obtain ⟨b, off, row, rfl, hbb, hrl, hrr, hrx⟩ := (htH.out wr hB.out).at m hlt
   have hlt' : (m : Int) < (xs.length : Int) := by omega
   have hcallH : Hid (Calls Tryz.prog 69 #[.agg row.toArray, .int .i64 z] wr fun e w' => SzQ z (FieldL.sz xs[m]) e ∧ Below wr.heap.size wr w') := helH.out xs[m] (List.getElem_mem hlt) wr row own lo hi z (Nat.le_trans hhH.out hB.out.size) hrx hrl hz0 hz1
   have hrrH : Hid (wr.rangeAt b (off + m * 3) row) := hrr
   have hrlH : Hid (row.length = 3) := hrl
   have hst : Hid (((xs.take (m + 1)).map FieldL.sz).sum = ((xs.take m).map FieldL.sz).sum + FieldL.sz xs[m]) := sum_take FieldL.sz xs m hlt
   have hle : Hid (((xs.take (m + 1)).map FieldL.sz).sum ≤ (xs.map FieldL.sz).sum) := sum_take_le FieldL.sz xs (m + 1)
   obtain ⟨n, hnn⟩ : ∃ n, n = FieldL.sz xs[m] := ⟨_, rfl⟩
   rw [← hnn] at hcallH hst
   clear hrr hrl hrx hnn
   by_cases hcc : z < n
   ·go_wp2_with (first
     | (refine wpList_load_mid rfl 100 _ rfl b (off + m * 3) (by first | rfl | (simp; done)) row _ hrrH.out Tryz.underlying100 rfl (by rw [hrlH.out]; exact hldH.out) ?_)
     | (go_at_call 69; refine hcallH.out.mono ?_; rintro e w2 ⟨⟨r, rfl, hr1, hr2⟩, hb2⟩; obtain rfl := hr1 hcc))
    go_ret
    have := hz.out; have := hst.out; have := hle.out
    exact ⟨SzQ.neg (by unfold sumL; omega), below_on2 hB.out hb2⟩
   ·go_wp2_with (first
     | (refine wpList_load_mid rfl 100 _ rfl b (off + m * 3) (by first | rfl | (simp; done)) row _ hrrH.out Tryz.underlying100 rfl (by rw [hrlH.out]; exact hldH.out) ?_)
     | (go_at_call 69; refine hcallH.out.mono ?_; rintro e w2 ⟨⟨r, rfl, hr1, hr2⟩, hb2⟩; obtain rfl := hr2 (by omega)))
    go_roundw
    case rel =>
     have := hz.out; have := hst.out
     exact ⟨m + 1, _, by omega, rfl, by omega, by omega, (show _ = _ by omega), by go_num, below_on2 hB.out hb2⟩
    case measure => simp [intOf]; omega
  ·go_wp2
   go_ret
   have h := hz.out
   rw [List.take_of_length_le (by omega)] at h
   exact ⟨SzQ.pos (by unfold sumL; omega) (by unfold sumL; omega), hB.out⟩
theorem szMethS_calls (v : Value) (xs : List MethL) (w : World) (own : Bool) (lo hi : Nat) (l : Int) (hh : hi ≤ w.heap.size) (ht : ListAt MethR 9 own lo hi w v xs) (hn : xs.length ≤ 9223372036854775807) (hl0 : 0 ≤ l) (hl1 : l ≤ 1048576) (hel : ∀ x ∈ xs, ElemSz 70 9 MethR MethL.sz x) :
  Calls Tryz.prog 42 #[v, .int .i64 l] w fun e w' => SzQ l (sumL MethL.sz xs) e ∧ Below w.heap.size w w' := by
 have hldH : Hid ((Tryz.prog.info? 107).map (·.size) = some 9) := by show (Tryz.prog.info? 107).map (·.size) = some 9; kernel_rfl
 obtain ⟨a, c, rfl⟩ := ht.form
 have helH : Hid (∀ x ∈ xs, ElemSz 70 9 MethR MethL.sz x) := hel
 have htH : Hid (∀ wr, Below w.heap.size w wr → ListAt MethR 9 own lo hi wr (.slice a xs.length c) xs) := fun wr hw => ht.kept MethR.stable (Nat.le_refl _) (Nat.le_refl _) ((Same.below hw).mono (Nat.zero_le _) hh)
 have hhH : Hid (hi ≤ w.heap.size) := hh
 clear ht hel hh
 by_cases hc : l < xs.length
 ·go_enter Tryz.func42, Tryz.ntmps42
  go_wp2
  go_ret
  exact ⟨SzQ.neg (by unfold sumL; omega), Below.refl _ _⟩
 go_enter Tryz.func42, Tryz.ntmps42
 go_wp2
 go_loopw [1, 5] (fun q i wr => ∃ (m : Nat) (z : Int), m ≤ xs.length ∧ q = .int .i64 z ∧ 0 ≤ z ∧ z ≤ 1048576 ∧ Hid (z = l - (xs.length + ((xs.take m).map MethL.sz).sum : Nat)) ∧ i = .int .i64 m ∧ Hid (Below w.heap.size w wr)) (fun _ i _ => xs.length - (intOf i).toNat)
 case atStart => exact ⟨0, _, Nat.zero_le _, rfl, by omega, by omega, by simp [Hid], rfl, Below.refl _ _⟩
 case round =>
  obtain ⟨m, z, hm, rfl, hz0, hz1, hz, rfl, hB⟩ := hrel
  by_cases hlt : m < xs.length
  ·obtain ⟨b, off, row, rfl, hbb, hrl, hrr, hrx⟩ := (htH.out wr hB.out).at m hlt
   have hlt' : (m : Int) < (xs.length : Int) := by omega
   have hcallH : Hid (Calls Tryz.prog 70 #[.agg row.toArray, .int .i64 z] wr fun e w' => SzQ z (MethL.sz xs[m]) e ∧ Below wr.heap.size wr w') := helH.out xs[m] (List.getElem_mem hlt) wr row own lo hi z (Nat.le_trans hhH.out hB.out.size) hrx hrl hz0 hz1
   have hrrH : Hid (wr.rangeAt b (off + m * 9) row) := hrr
   have hrlH : Hid (row.length = 9) := hrl
   have hst : Hid (((xs.take (m + 1)).map MethL.sz).sum = ((xs.take m).map MethL.sz).sum + MethL.sz xs[m]) := sum_take MethL.sz xs m hlt
   have hle : Hid (((xs.take (m + 1)).map MethL.sz).sum ≤ (xs.map MethL.sz).sum) := sum_take_le MethL.sz xs (m + 1)
   obtain ⟨n, hnn⟩ : ∃ n, n = MethL.sz xs[m] := ⟨_, rfl⟩
   rw [← hnn] at hcallH hst
   clear hrr hrl hrx hnn
   by_cases hcc : z < n
   ·go_wp2_with (first
     | (refine wpList_load_mid rfl 107 _ rfl b (off + m * 9) (by first | rfl | (simp; done)) row _ hrrH.out Tryz.underlying107 rfl (by rw [hrlH.out]; exact hldH.out) ?_)
     | (go_at_call 70; refine hcallH.out.mono ?_; rintro e w2 ⟨⟨r, rfl, hr1, hr2⟩, hb2⟩; obtain rfl := hr1 hcc))
    go_ret
    have := hz.out; have := hst.out; have := hle.out
    exact ⟨SzQ.neg (by unfold sumL; omega), below_on2 hB.out hb2⟩
   ·go_wp2_with (first
     | (refine wpList_load_mid rfl 107 _ rfl b (off + m * 9) (by first | rfl | (simp; done)) row _ hrrH.out Tryz.underlying107 rfl (by rw [hrlH.out]; exact hldH.out) ?_)
     | (go_at_call 70; refine hcallH.out.mono ?_; rintro e w2 ⟨⟨r, rfl, hr1, hr2⟩, hb2⟩; obtain rfl := hr2 (by omega)))
    go_roundw
    case rel =>
     have := hz.out; have := hst.out
     exact ⟨m + 1, _, by omega, rfl, by omega, by omega, (show _ = _ by omega), by go_num, below_on2 hB.out hb2⟩
    case measure => simp [intOf]; omega
  ·go_wp2
   go_ret
   have h := hz.out
   rw [List.take_of_length_le (by omega)] at h
   exact ⟨SzQ.pos (by unfold sumL; omega) (by unfold sumL; omega), hB.out⟩
theorem szField_calls (x : FieldL) (hy : x.upto) : ElemSz 69 3 FieldR FieldL.sz x := by
 intro w row own lo hi l hh hx hl hl0 hl1
 obtain rfl : row = [.string x.name, .string x.ty, .int .i64 x.flags] := hx
 obtain ⟨hN, hT⟩ := hy
 unfold FieldL.sz
 clear hl hh
 go_enter Tryz.func69, Tryz.ntmps69
 go_wp2
 all_goals (
  go_ret
  refine ⟨?_, below_1 _ _⟩
  go_light
  first | exact SzQ.neg (by omega) | exact SzQ.pos (by omega) (by omega))
theorem szClass_calls (x : ClassL) (hy : x.upto) : ElemSz 23 7 ClassR ClassL.sz x := by
 intro w row own lo hi l hh hx hl hl0 hl1
 obtain ⟨p, q, s, t, rfl, hp, hq, hs, ht⟩ := hx
 obtain ⟨hN, hS, ⟨hc0, hc1⟩, ⟨hd0, hd1⟩, ⟨hf0, hf1⟩, ⟨hg0, hg1⟩⟩ := hy
 have c1 : Hid (∀ (l : Int) (W : World), Below w.heap.size w W → 0 ≤ l → l ≤ 1048576 → Calls Tryz.prog 40 #[p, .int .i64 l] W fun e w' => SzQ l (sumL ByteArray.size x.ifs) e ∧ Below W.heap.size W w') := fun l W hW h0 h1 =>
  (szStrs_calls p x.ifs W own lo hi l (hp.1.kept StrR.stable (Nat.le_refl _) (Nat.le_refl _) ((Same.below hW).mono (Nat.zero_le _) hh)) hc0 hc1 h0 h1).mono (fun e w' h => ⟨h.1, by rw [h.2]; exact Below.refl _ _⟩)
 have c2 : Hid (∀ (l : Int) (W : World), Below w.heap.size w W → 0 ≤ l → l ≤ 1048576 → Calls Tryz.prog 40 #[q, .int .i64 l] W fun e w' => SzQ l (sumL ByteArray.size x.perms) e ∧ Below W.heap.size W w') := fun l W hW h0 h1 =>
  (szStrs_calls q x.perms W own lo hi l (hq.1.kept StrR.stable (Nat.le_refl _) (Nat.le_refl _) ((Same.below hW).mono (Nat.zero_le _) hh)) hd0 hd1 h0 h1).mono (fun e w' h => ⟨h.1, by rw [h.2]; exact Below.refl _ _⟩)
 have c3 : Hid (∀ (l : Int) (W : World), Below w.heap.size w W → 0 ≤ l → l ≤ 1048576 → Calls Tryz.prog 41 #[s, .int .i64 l] W fun e w' => SzQ l (sumL FieldL.sz x.fields) e ∧ Below W.heap.size W w') := fun l W hW h0 h1 =>
  szFieldS_calls s x.fields W own lo hi l (Nat.le_trans hh hW.size) (hs.kept FieldR.stable (Nat.le_refl _) (Nat.le_refl _) ((Same.below hW).mono (Nat.zero_le _) hh)) hf0 h0 h1 (fun y hy => szField_calls y (hf1 y hy))
 have c4 : Hid (∀ (l : Int) (W : World), Below w.heap.size w W → 0 ≤ l → l ≤ 1048576 → Calls Tryz.prog 42 #[t, .int .i64 l] W fun e w' => SzQ l (sumL MethL.sz x.meths) e ∧ Below W.heap.size W w') := fun l W hW h0 h1 =>
  szMethS_calls t x.meths W own lo hi l (Nat.le_trans hh hW.size) (ht.kept MethR.stable (Nat.le_refl _) (Nat.le_refl _) ((Same.below hW).mono (Nat.zero_le _) hh)) hg0 h0 h1 (fun y hy => szMeth_calls y (hg1 y hy))
 unfold ClassL.sz
 generalize sumL ByteArray.size x.ifs = n1 at *
 generalize sumL ByteArray.size x.perms = n2 at *
 generalize sumL FieldL.sz x.fields = n3 at *
 generalize sumL MethL.sz x.meths = n4 at *
 obtain ⟨a1, k1, rfl⟩ := hp.form
 obtain ⟨a2, k2, rfl⟩ := hq.form
 obtain ⟨a3, k3, rfl⟩ := hs.form
 obtain ⟨a4, k4, rfl⟩ := ht.form
 generalize x.ifs.length = m1 at *
 generalize x.perms.length = m2 at *
 generalize x.fields.length = m3 at *
 generalize x.meths.length = m4 at *
 clear hp hq hs ht hl hh hc0 hc1 hd0 hd1 hf0 hf1 hg0 hg1
 by_cases h1 : l < x.name.size
 ·go_enter Tryz.func23, Tryz.ntmps23
  go_wp2
  go_ret
  exact ⟨SzQ.neg (by omega), below_1 _ _⟩
 by_cases h2 : l - x.name.size < x.super.size
 ·go_enter Tryz.func23, Tryz.ntmps23
  go_wp2
  go_ret
  exact ⟨SzQ.neg (by omega), below_1 _ _⟩
 go_enter Tryz.func23, Tryz.ntmps23
 go_wp2_with fail
 obtain ⟨W0, hW0⟩ : ∃ W : World, W = w.alloc (.cells #[.string x.name, .string x.super, .slice a1 m1 k1, .int .i64 x.flags, .slice a2 m2 k2, .slice a3 m3 k3, .slice a4 m4 k4] 44) := ⟨_, rfl⟩
 rw [← hW0]
 have r0 : Hid (Rec1 w W0 [.string x.name, .string x.super, .slice a1 m1 k1, .int .i64 x.flags, .slice a2 m2 k2, .slice a3 m3 k3, .slice a4 m4 k4]) := Rec1.start hW0
 clear hW0
 refine (c1.out _ _ r0.out.hb (by omega) (by omega)).mono ?_
 rintro e w1 ⟨⟨r, rfl, hr1, hr2⟩, hb1⟩
 have r1 : Hid (Rec1 w w1 [.string x.name, .string x.super, .slice a1 m1 k1, .int .i64 x.flags, .slice a2 m2 k2, .slice a3 m3 k3, .slice a4 m4 k4]) := r0.out.call hb1
 have y1 := r1.out.cell 4 _ rfl
 clear hb1
 by_cases g1 : l - x.name.size - x.super.size < n1
 ·obtain rfl := hr1 g1
  go_wp2
  go_ret
  exact ⟨SzQ.neg (by omega), r1.out.hb⟩
 obtain rfl := hr2 (by omega)
 clear hr1 hr2
 go_wp2_with fail
 clear y1
 refine (c2.out _ _ r1.out.hb (by omega) (by omega)).mono ?_
 rintro e w2 ⟨⟨r, rfl, hr1, hr2⟩, hb2⟩
 have r2 : Hid (Rec1 w w2 [.string x.name, .string x.super, .slice a1 m1 k1, .int .i64 x.flags, .slice a2 m2 k2, .slice a3 m3 k3, .slice a4 m4 k4]) := r1.out.call hb2
 have y2 := r2.out.cell 5 _ rfl
 clear hb2
 by_cases g2 : l - x.name.size - x.super.size - n1 < n2
 ·obtain rfl := hr1 g2
  go_wp2
  go_ret
  exact ⟨SzQ.neg (by omega), r2.out.hb⟩
 obtain rfl := hr2 (by omega)
 clear hr1 hr2
 go_wp2_with fail
 clear y2
 refine (c3.out _ _ r2.out.hb (by omega) (by omega)).mono ?_
 rintro e w3 ⟨⟨r, rfl, hr1, hr2⟩, hb3⟩
 have r3 : Hid (Rec1 w w3 [.string x.name, .string x.super, .slice a1 m1 k1, .int .i64 x.flags, .slice a2 m2 k2, .slice a3 m3 k3, .slice a4 m4 k4]) := r2.out.call hb3
 have y3 := r3.out.cell 6 _ rfl
 clear hb3
 by_cases g3 : l - x.name.size - x.super.size - n1 - n2 < n3
 ·obtain rfl := hr1 g3
  go_wp2
  go_ret
  exact ⟨SzQ.neg (by omega), r3.out.hb⟩
 obtain rfl := hr2 (by omega)
 clear hr1 hr2
 go_wp2_with fail
 clear y3
 refine (c4.out _ _ r3.out.hb (by omega) (by omega)).mono ?_
 rintro e w4 ⟨⟨r, rfl, hr1, hr2⟩, hb4⟩
 have r4 : Hid (Rec1 w w4 [.string x.name, .string x.super, .slice a1 m1 k1, .int .i64 x.flags, .slice a2 m2 k2, .slice a3 m3 k3, .slice a4 m4 k4]) := r3.out.call hb4
 clear hb4
 by_cases g4 : l - x.name.size - x.super.size - n1 - n2 - n3 < n4
 ·obtain rfl := hr1 g4
  go_wp2
  go_ret
  exact ⟨SzQ.neg (by omega), r4.out.hb⟩
 obtain rfl := hr2 (by omega)
 clear hr1 hr2
 go_wp2
 go_ret
 exact ⟨SzQ.pos (by omega) (by omega), r4.out.hb⟩
theorem ClassL.small_of_sz {x : ClassL} (h : x.sz ≤ 1048576) : x.small := by
 unfold ClassL.sz at h
 have hc := sumL_le (f := ByteArray.size) (xs := x.ifs) (n := 1048576) (by omega)
 have hd := sumL_le (f := ByteArray.size) (xs := x.perms) (n := 1048576) (by omega)
 have hf := sumL_le (f := FieldL.sz) (xs := x.fields) (n := 1048576) (by omega)
 have hm := sumL_le (f := MethL.sz) (xs := x.meths) (n := 1048576) (by omega)
 refine ⟨by omega, by omega, hc, hd, ⟨hf.1, fun y hy => ?_⟩, ⟨hm.1, fun y hy => MethL.small_of_sz (hm.2 y hy)⟩⟩
 have := hf.2 y hy
 unfold FieldL.sz at this
 exact ⟨by omega, by omega⟩
theorem nil_beqC (l : List UInt8) : (l == []) = l.isEmpty := by cases l <;> rfl
theorem superOk_walk (N S : ByteArray) (f : Int) (a1 : Option Addr) (n1 c1 : Nat) (a2 : Option Addr) (n2 c2 : Nat) (a3 : Option Addr) (n3 c3 : Nat) (a4 : Option Addr) (n4 c4 : Nat) (b1 : Bool) (w : World)
  (q1 : ∀ W, Below w.heap.size w W → Calls Tryz.prog 111 #[.string S] W fun e w' => e = .returned (.bool b1) ∧ Below W.heap.size W w') :
  Calls Tryz.prog 112 #[.agg #[.string N, .string S, .slice a1 n1 c1, .int .i64 f, .slice a2 n2 c2, .slice a3 n3 c3, .slice a4 n4 c4]] w fun e w' => e = .returned (.bool (if (N.toList == [79, 98, 106, 101, 99, 116]) = true then S.toList == [] else b1)) ∧ Below w.heap.size w w' := by
 have qq1 : Hid (∀ W, Below w.heap.size w W → Calls Tryz.prog 111 #[.string S] W fun e w' => e = .returned (.bool b1) ∧ Below W.heap.size W w') := q1
 clear q1
 obtain ⟨R, hR⟩ : ∃ R, (if (N.toList == [79, 98, 106, 101, 99, 116]) = true then S.toList == [] else b1) = R := ⟨_, rfl⟩
 rw [hR]
 have hRH : Hid ((if (N.toList == [79, 98, 106, 101, 99, 116]) = true then S.toList == [] else b1) = R) := hR
 clear hR
 cases hn : (N.toList == [79, 98, 106, 101, 99, 116])
 ·go_enter Tryz.func112, Tryz.ntmps112
  go_wp2_with (go_at_call 111; refine (qq1.out _ (below_1 _ _)).mono ?_; rintro e w1 ⟨rfl, hb1⟩)
  go_ret
  exact ⟨by rw [← hRH.out, hn]; rfl, below_on2 (below_1 _ _) hb1⟩
 ·go_enter Tryz.func112, Tryz.ntmps112
  go_wp2
  go_ret
  exact ⟨by rw [← hRH.out, hn, if_pos rfl, nil_beqC]; rfl, below_1 _ _⟩
theorem interfacesOk_walk (N S : ByteArray) (f : Int) (a1 : Option Addr) (n1 c1 : Nat) (a2 : Option Addr) (n2 c2 : Nat) (a3 : Option Addr) (n3 c3 : Nat) (a4 : Option Addr) (n4 c4 : Nat) (b1 b2 : Bool) (w : World)
  (q1 : ∀ W, Below w.heap.size w W → Calls Tryz.prog 145 #[.slice a1 n1 c1, .func (.func 111) #[] #[]] W fun e w' => e = .returned (.bool b1) ∧ Below W.heap.size W w')
  (q2 : ∀ W, Below w.heap.size w W → Calls Tryz.prog 146 #[.slice a1 n1 c1, .func (.func 144) #[] #[]] W fun e w' => e = .returned (.bool b2) ∧ Below W.heap.size W w') :
  Calls Tryz.prog 114 #[.agg #[.string N, .string S, .slice a1 n1 c1, .int .i64 f, .slice a2 n2 c2, .slice a3 n3 c3, .slice a4 n4 c4]] w fun e w' => e = .returned (.bool (decide ((n1 : Int) ≤ 40) && (b1 && b2))) ∧ Below w.heap.size w w' := by
 have qq1 : Hid (∀ W, Below w.heap.size w W → Calls Tryz.prog 145 #[.slice a1 n1 c1, .func (.func 111) #[] #[]] W fun e w' => e = .returned (.bool b1) ∧ Below W.heap.size W w') := q1
 have qq2 : Hid (∀ W, Below w.heap.size w W → Calls Tryz.prog 146 #[.slice a1 n1 c1, .func (.func 144) #[] #[]] W fun e w' => e = .returned (.bool b2) ∧ Below W.heap.size W w') := q2
 clear q1 q2
 obtain ⟨R, hR⟩ : ∃ R, (decide ((n1 : Int) ≤ 40) && (b1 && b2)) = R := ⟨_, rfl⟩
 rw [hR]
 have hRH : Hid ((decide ((n1 : Int) ≤ 40) && (b1 && b2)) = R) := hR
 clear hR
 by_cases h40 : (n1 : Int) ≤ 40
 ·rw [decide_eq_true h40] at hRH
  go_enter Tryz.func114, Tryz.ntmps114
  go_wp2_with fail
  obtain ⟨W0, hW0⟩ : ∃ W : World, W = w.alloc (.cells #[.string N, .string S, .slice a1 n1 c1, .int .i64 f, .slice a2 n2 c2, .slice a3 n3 c3, .slice a4 n4 c4] 49) := ⟨_, rfl⟩
  rw [← hW0]
  have r0 : Hid (Rec1 w W0 [.string N, .string S, .slice a1 n1 c1, .int .i64 f, .slice a2 n2 c2, .slice a3 n3 c3, .slice a4 n4 c4]) := Rec1.start hW0
  clear hW0
  refine (qq1.out _ r0.out.hb).mono ?_
  rintro e w1 ⟨rfl, hb1⟩
  have r1 : Hid (Rec1 w w1 [.string N, .string S, .slice a1 n1 c1, .int .i64 f, .slice a2 n2 c2, .slice a3 n3 c3, .slice a4 n4 c4]) := r0.out.call hb1
  clear hb1
  have y2 := r1.out.cell 2 _ rfl
  cases b1 with
  | false =>
   go_wp2
   go_ret
   exact ⟨by rw [← hRH.out]; rfl, r1.out.hb⟩
  | true =>
   go_wp2_with fail
   clear y2
   refine (qq2.out _ r1.out.hb).mono ?_
   rintro e w2 ⟨rfl, hb2⟩
   have r2 : Hid (Rec1 w w2 [.string N, .string S, .slice a1 n1 c1, .int .i64 f, .slice a2 n2 c2, .slice a3 n3 c3, .slice a4 n4 c4]) := r1.out.call hb2
   clear hb2
   go_wp2
   go_ret
   exact ⟨by rw [← hRH.out]; rfl, r2.out.hb⟩
 ·rw [decide_eq_false h40] at hRH
  go_enter Tryz.func114, Tryz.ntmps114
  go_wp2
  go_ret
  exact ⟨by rw [← hRH.out]; rfl, below_1 _ _⟩
theorem permitsOk_walk (N S : ByteArray) (f : Int) (a1 : Option Addr) (n1 c1 : Nat) (a2 : Option Addr) (n2 c2 : Nat) (a3 : Option Addr) (n3 c3 : Nat) (a4 : Option Addr) (n4 c4 : Nat) (b1 b2 : Bool) (w : World)
  (q1 : ∀ W, Below w.heap.size w W → Calls Tryz.prog 145 #[.slice a2 n2 c2, .func (.func 111) #[] #[]] W fun e w' => e = .returned (.bool b1) ∧ Below W.heap.size W w')
  (q2 : ∀ W, Below w.heap.size w W → Calls Tryz.prog 147 #[.slice a2 n2 c2] W fun e w' => e = .returned (.bool b2) ∧ Below W.heap.size W w') :
  Calls Tryz.prog 115 #[.agg #[.string N, .string S, .slice a1 n1 c1, .int .i64 f, .slice a2 n2 c2, .slice a3 n3 c3, .slice a4 n4 c4]] w fun e w' => e = .returned (.bool (!(decide ((40 : Int) < n2) || (hasB f 256 != decide ((0 : Int) < n2))) && (b1 && b2))) ∧ Below w.heap.size w w' := by
 have qq1 : Hid (∀ W, Below w.heap.size w W → Calls Tryz.prog 145 #[.slice a2 n2 c2, .func (.func 111) #[] #[]] W fun e w' => e = .returned (.bool b1) ∧ Below W.heap.size W w') := q1
 have qq2 : Hid (∀ W, Below w.heap.size w W → Calls Tryz.prog 147 #[.slice a2 n2 c2] W fun e w' => e = .returned (.bool b2) ∧ Below W.heap.size W w') := q2
 clear q1 q2
 obtain ⟨R, hR⟩ : ∃ R, (!(decide ((40 : Int) < n2) || (hasB f 256 != decide ((0 : Int) < n2))) && (b1 && b2)) = R := ⟨_, rfl⟩
 rw [hR]
 have hRH : Hid ((!(decide ((40 : Int) < n2) || (hasB f 256 != decide ((0 : Int) < n2))) && (b1 && b2)) = R) := hR
 clear hR
 have fH : Hid (∀ g W, Calls Tryz.prog 98 #[.int .i64 f, .int .i64 g] W fun e w' => e = .returned (.bool (hasB f g)) ∧ w' = W) := fun g W => hasFlag_calls f g W
 by_cases h40 : (40 : Int) < n2
 ·rw [decide_eq_true h40] at hRH
  go_enter Tryz.func115, Tryz.ntmps115
  go_wp2
  go_quiet (first | (go_at_call 98; exact Calls.quiet_of_same (fH.out _ _)))
  go_wp2
  go_ret
  exact ⟨by rw [← hRH.out]; rfl, below_drewN2 (below_1 _ _) _⟩
 ·rw [decide_eq_false h40] at hRH
  by_cases h0 : (0 : Int) < n2
  ·rw [decide_eq_true h0] at hRH
   have h0d : decide (0 < n2) = true := decide_eq_true (by omega)
   cases hb : hasB f 256
   ·rw [hb] at hRH
    go_enter Tryz.func115, Tryz.ntmps115
    go_wp2
    go_quiet (first | (go_at_call 98; exact Calls.quiet_of_same (fH.out _ _)))
    go_wp2
    go_ret
    exact ⟨by rw [← hRH.out]; rfl, below_drewN2 (below_1 _ _) _⟩
   ·rw [hb] at hRH
    go_enter Tryz.func115, Tryz.ntmps115
    go_wp2
    go_quiet (first | (go_at_call 98; exact Calls.quiet_of_same (fH.out _ _)))
    go_wp2_with fail
    obtain ⟨W0, hW0⟩ : ∃ W : World, W = (w.alloc (.cells #[.string N, .string S, .slice a1 n1 c1, .int .i64 f, .slice a2 n2 c2, .slice a3 n3 c3, .slice a4 n4 c4] 49)).drewN nq := ⟨_, rfl⟩
    rw [← hW0]
    have r0 : Hid (Rec1 w W0 [.string N, .string S, .slice a1 n1 c1, .int .i64 f, .slice a2 n2 c2, .slice a3 n3 c3, .slice a4 n4 c4]) := by rw [hW0]; exact (Rec1.start rfl).call (below_drewN2 (Below.refl _ _) _)
    clear hW0
    refine (qq1.out _ r0.out.hb).mono ?_
    rintro e w1 ⟨rfl, hb1⟩
    have r1 : Hid (Rec1 w w1 [.string N, .string S, .slice a1 n1 c1, .int .i64 f, .slice a2 n2 c2, .slice a3 n3 c3, .slice a4 n4 c4]) := r0.out.call hb1
    clear hb1
    have y4 := r1.out.cell 4 _ rfl
    cases b1 with
    | false =>
     go_wp2
     go_ret
     exact ⟨by rw [← hRH.out]; rfl, r1.out.hb⟩
    | true =>
     go_wp2_with fail
     clear y4
     refine (qq2.out _ r1.out.hb).mono ?_
     rintro e w2 ⟨rfl, hb2⟩
     have r2 : Hid (Rec1 w w2 [.string N, .string S, .slice a1 n1 c1, .int .i64 f, .slice a2 n2 c2, .slice a3 n3 c3, .slice a4 n4 c4]) := r1.out.call hb2
     clear hb2
     go_wp2
     go_ret
     exact ⟨by rw [← hRH.out]; rfl, r2.out.hb⟩
  ·rw [decide_eq_false h0] at hRH
   have h0d : decide (0 < n2) = false := decide_eq_false (by omega)
   cases hb : hasB f 256
   ·rw [hb] at hRH
    go_enter Tryz.func115, Tryz.ntmps115
    go_wp2
    go_quiet (first | (go_at_call 98; exact Calls.quiet_of_same (fH.out _ _)))
    go_wp2_with fail
    obtain ⟨W0, hW0⟩ : ∃ W : World, W = (w.alloc (.cells #[.string N, .string S, .slice a1 n1 c1, .int .i64 f, .slice a2 n2 c2, .slice a3 n3 c3, .slice a4 n4 c4] 49)).drewN nq := ⟨_, rfl⟩
    rw [← hW0]
    have r0 : Hid (Rec1 w W0 [.string N, .string S, .slice a1 n1 c1, .int .i64 f, .slice a2 n2 c2, .slice a3 n3 c3, .slice a4 n4 c4]) := by rw [hW0]; exact (Rec1.start rfl).call (below_drewN2 (Below.refl _ _) _)
    clear hW0
    refine (qq1.out _ r0.out.hb).mono ?_
    rintro e w1 ⟨rfl, hb1⟩
    have r1 : Hid (Rec1 w w1 [.string N, .string S, .slice a1 n1 c1, .int .i64 f, .slice a2 n2 c2, .slice a3 n3 c3, .slice a4 n4 c4]) := r0.out.call hb1
    clear hb1
    have y4 := r1.out.cell 4 _ rfl
    cases b1 with
    | false =>
     go_wp2
     go_ret
     exact ⟨by rw [← hRH.out]; rfl, r1.out.hb⟩
    | true =>
     go_wp2_with fail
     clear y4
     refine (qq2.out _ r1.out.hb).mono ?_
     rintro e w2 ⟨rfl, hb2⟩
     have r2 : Hid (Rec1 w w2 [.string N, .string S, .slice a1 n1 c1, .int .i64 f, .slice a2 n2 c2, .slice a3 n3 c3, .slice a4 n4 c4]) := r1.out.call hb2
     clear hb2
     go_wp2
     go_ret
     exact ⟨by rw [← hRH.out]; rfl, r2.out.hb⟩
   ·rw [hb] at hRH
    go_enter Tryz.func115, Tryz.ntmps115
    go_wp2
    go_quiet (first | (go_at_call 98; exact Calls.quiet_of_same (fH.out _ _)))
    go_wp2
    go_ret
    exact ⟨by rw [← hRH.out]; rfl, below_drewN2 (below_1 _ _) _⟩
theorem membersOk_walk (N S : ByteArray) (f : Int) (a1 : Option Addr) (n1 c1 : Nat) (a2 : Option Addr) (n2 c2 : Nat) (a3 : Option Addr) (n3 c3 : Nat) (a4 : Option Addr) (n4 c4 : Nat) (b1 b2 b3 b4 : Bool) (w : World)
  (q1 : ∀ W, Below w.heap.size w W → Calls Tryz.prog 148 #[.slice a3 n3 c3, .func (.func 149) #[] #[]] W fun e w' => e = .returned (.bool b1) ∧ Below W.heap.size W w')
  (q2 : ∀ W, Below w.heap.size w W → Calls Tryz.prog 150 #[.slice a4 n4 c4, .func (.func 151) #[] #[]] W fun e w' => e = .returned (.bool b2) ∧ Below W.heap.size W w')
  (q3 : ∀ W, Below w.heap.size w W → Calls Tryz.prog 154 #[.slice a3 n3 c3, .func (.func 152) #[] #[]] W fun e w' => e = .returned (.bool b3) ∧ Below W.heap.size W w')
  (q4 : ∀ W, Below w.heap.size w W → Calls Tryz.prog 155 #[.slice a4 n4 c4, .func (.func 153) #[] #[]] W fun e w' => e = .returned (.bool b4) ∧ Below W.heap.size W w') :
  Calls Tryz.prog 116 #[.agg #[.string N, .string S, .slice a1 n1 c1, .int .i64 f, .slice a2 n2 c2, .slice a3 n3 c3, .slice a4 n4 c4]] w fun e w' => e = .returned (.bool (!(decide ((40 : Int) < n3) || decide ((40 : Int) < n4)) && (b1 && (b2 && (b3 && b4))))) ∧ Below w.heap.size w w' := by
 have qq1 : Hid (∀ W, Below w.heap.size w W → Calls Tryz.prog 148 #[.slice a3 n3 c3, .func (.func 149) #[] #[]] W fun e w' => e = .returned (.bool b1) ∧ Below W.heap.size W w') := q1
 have qq2 : Hid (∀ W, Below w.heap.size w W → Calls Tryz.prog 150 #[.slice a4 n4 c4, .func (.func 151) #[] #[]] W fun e w' => e = .returned (.bool b2) ∧ Below W.heap.size W w') := q2
 have qq3 : Hid (∀ W, Below w.heap.size w W → Calls Tryz.prog 154 #[.slice a3 n3 c3, .func (.func 152) #[] #[]] W fun e w' => e = .returned (.bool b3) ∧ Below W.heap.size W w') := q3
 have qq4 : Hid (∀ W, Below w.heap.size w W → Calls Tryz.prog 155 #[.slice a4 n4 c4, .func (.func 153) #[] #[]] W fun e w' => e = .returned (.bool b4) ∧ Below W.heap.size W w') := q4
 clear q1 q2 q3 q4
 obtain ⟨R, hR⟩ : ∃ R, (!(decide ((40 : Int) < n3) || decide ((40 : Int) < n4)) && (b1 && (b2 && (b3 && b4)))) = R := ⟨_, rfl⟩
 rw [hR]
 have hRH : Hid ((!(decide ((40 : Int) < n3) || decide ((40 : Int) < n4)) && (b1 && (b2 && (b3 && b4)))) = R) := hR
 clear hR
 by_cases h40 : (40 : Int) < n3
 ·rw [decide_eq_true h40] at hRH
  go_enter Tryz.func116, Tryz.ntmps116
  go_wp2
  go_ret
  exact ⟨by rw [← hRH.out]; rfl, below_1 _ _⟩
 rw [decide_eq_false h40] at hRH
 by_cases g40 : (40 : Int) < n4
 ·rw [decide_eq_true g40] at hRH
  go_enter Tryz.func116, Tryz.ntmps116
  go_wp2
  go_ret
  exact ⟨by rw [← hRH.out]; rfl, below_1 _ _⟩
 rw [decide_eq_false g40] at hRH
 go_enter Tryz.func116, Tryz.ntmps116
 go_wp2_with fail
 obtain ⟨W0, hW0⟩ : ∃ W : World, W = w.alloc (.cells #[.string N, .string S, .slice a1 n1 c1, .int .i64 f, .slice a2 n2 c2, .slice a3 n3 c3, .slice a4 n4 c4] 49) := ⟨_, rfl⟩
 rw [← hW0]
 have r0 : Hid (Rec1 w W0 [.string N, .string S, .slice a1 n1 c1, .int .i64 f, .slice a2 n2 c2, .slice a3 n3 c3, .slice a4 n4 c4]) := Rec1.start hW0
 clear hW0
 refine (qq1.out _ r0.out.hb).mono ?_
 rintro e w1 ⟨rfl, hb1⟩
 have r1 : Hid (Rec1 w w1 [.string N, .string S, .slice a1 n1 c1, .int .i64 f, .slice a2 n2 c2, .slice a3 n3 c3, .slice a4 n4 c4]) := r0.out.call hb1
 clear hb1
 have y5 := r1.out.cell 5 _ rfl
 have y6 := r1.out.cell 6 _ rfl
 cases b1 with
 | false =>
  go_wp2
  go_ret
  exact ⟨by rw [← hRH.out]; rfl, r1.out.hb⟩
 | true =>
  go_wp2_with fail
  clear y5 y6
  refine (qq2.out _ r1.out.hb).mono ?_
  rintro e w2 ⟨rfl, hb2⟩
  have r2 : Hid (Rec1 w w2 [.string N, .string S, .slice a1 n1 c1, .int .i64 f, .slice a2 n2 c2, .slice a3 n3 c3, .slice a4 n4 c4]) := r1.out.call hb2
  clear hb2
  have y5 := r2.out.cell 5 _ rfl
  have y6 := r2.out.cell 6 _ rfl
  cases b2 with
  | false =>
   go_wp2
   go_ret
   exact ⟨by rw [← hRH.out]; rfl, r2.out.hb⟩
  | true =>
   go_wp2_with fail
   clear y5 y6
   refine (qq3.out _ r2.out.hb).mono ?_
   rintro e w3 ⟨rfl, hb3⟩
   have r3 : Hid (Rec1 w w3 [.string N, .string S, .slice a1 n1 c1, .int .i64 f, .slice a2 n2 c2, .slice a3 n3 c3, .slice a4 n4 c4]) := r2.out.call hb3
   clear hb3
   have y5 := r3.out.cell 5 _ rfl
   have y6 := r3.out.cell 6 _ rfl
   cases b3 with
   | false =>
    go_wp2
    go_ret
    exact ⟨by rw [← hRH.out]; rfl, r3.out.hb⟩
   | true =>
    go_wp2_with fail
    clear y5 y6
    refine (qq4.out _ r3.out.hb).mono ?_
    rintro e w4 ⟨rfl, hb4⟩
    have r4 : Hid (Rec1 w w4 [.string N, .string S, .slice a1 n1 c1, .int .i64 f, .slice a2 n2 c2, .slice a3 n3 c3, .slice a4 n4 c4]) := r3.out.call hb4
    clear hb4
    go_wp2
    go_ret
    exact ⟨by rw [← hRH.out]; rfl, r4.out.hb⟩
theorem flagsAgree_walk (N S : ByteArray) (f : Int) (a1 : Option Addr) (n1 c1 : Nat) (a2 : Option Addr) (n2 c2 : Nat) (a3 : Option Addr) (n3 c3 : Nat) (a4 : Option Addr) (n4 c4 : Nat) (b1 : Bool) (w : World)
  (q1 : ∀ W, Below w.heap.size w W → Calls Tryz.prog 150 #[.slice a4 n4 c4, .func (.func 156) #[] #[]] W fun e w' => e = .returned (.bool b1) ∧ Below W.heap.size W w') :
  Calls Tryz.prog 117 #[.agg #[.string N, .string S, .slice a1 n1 c1, .int .i64 f, .slice a2 n2 c2, .slice a3 n3 c3, .slice a4 n4 c4]] w fun e w' => e = .returned (.bool (!(hasB f 2 && (hasB f 4 || hasB f 256)) && (hasB f 4 || b1))) ∧ Below w.heap.size w w' := by
 have qq1 : Hid (∀ W, Below w.heap.size w W → Calls Tryz.prog 150 #[.slice a4 n4 c4, .func (.func 156) #[] #[]] W fun e w' => e = .returned (.bool b1) ∧ Below W.heap.size W w') := q1
 clear q1
 obtain ⟨R, hR⟩ : ∃ R, (!(hasB f 2 && (hasB f 4 || hasB f 256)) && (hasB f 4 || b1)) = R := ⟨_, rfl⟩
 rw [hR]
 have hRH : Hid ((!(hasB f 2 && (hasB f 4 || hasB f 256)) && (hasB f 4 || b1)) = R) := hR
 clear hR
 have fH : Hid (∀ g W, Calls Tryz.prog 98 #[.int .i64 f, .int .i64 g] W fun e w' => e = .returned (.bool (hasB f g)) ∧ w' = W) := fun g W => hasFlag_calls f g W
 cases h2 : hasB f 2 <;> cases h4 : hasB f 4 <;> cases h6 : hasB f 256 <;> rw [h2, h4, h6] at hRH
 all_goals (
  go_enter Tryz.func117, Tryz.ntmps117
  go_wp2_with (first | (go_at_call 98; refine (fH.out _ _).mono ?_; rintro e w2 ⟨rfl, rfl⟩) | (go_at_call 150; refine (qq1.out _ (below_1 _ _)).mono ?_; rintro e w1 ⟨rfl, hb1⟩))
  go_ret
  exact ⟨by rw [← hRH.out]; rfl, by first | exact below_1 _ _ | exact below_on2 (below_1 _ _) (by assumption)⟩)
theorem interfaceOk_walk (N S : ByteArray) (f : Int) (a1 : Option Addr) (n1 c1 : Nat) (a2 : Option Addr) (n2 c2 : Nat) (a3 : Option Addr) (n3 c3 : Nat) (a4 : Option Addr) (n4 c4 : Nat) (b1 b2 : Bool) (w : World)
  (q1 : ∀ W, Below w.heap.size w W → Calls Tryz.prog 148 #[.slice a3 n3 c3, .func (.func 157) #[] #[]] W fun e w' => e = .returned (.bool b1) ∧ Below W.heap.size W w')
  (q2 : ∀ W, Below w.heap.size w W → Calls Tryz.prog 150 #[.slice a4 n4 c4, .func (.func 158) #[] #[]] W fun e w' => e = .returned (.bool b2) ∧ Below W.heap.size W w') :
  Calls Tryz.prog 118 #[.agg #[.string N, .string S, .slice a1 n1 c1, .int .i64 f, .slice a2 n2 c2, .slice a3 n3 c3, .slice a4 n4 c4]] w fun e w' => e = .returned (.bool (!hasB f 128 || (hasB f 4 && ((S.toList == [79, 98, 106, 101, 99, 116]) && (b1 && b2))))) ∧ Below w.heap.size w w' := by
 have qq1 : Hid (∀ W, Below w.heap.size w W → Calls Tryz.prog 148 #[.slice a3 n3 c3, .func (.func 157) #[] #[]] W fun e w' => e = .returned (.bool b1) ∧ Below W.heap.size W w') := q1
 have qq2 : Hid (∀ W, Below w.heap.size w W → Calls Tryz.prog 150 #[.slice a4 n4 c4, .func (.func 158) #[] #[]] W fun e w' => e = .returned (.bool b2) ∧ Below W.heap.size W w') := q2
 clear q1 q2
 obtain ⟨R, hR⟩ : ∃ R, (!hasB f 128 || (hasB f 4 && ((S.toList == [79, 98, 106, 101, 99, 116]) && (b1 && b2)))) = R := ⟨_, rfl⟩
 rw [hR]
 have hRH : Hid ((!hasB f 128 || (hasB f 4 && ((S.toList == [79, 98, 106, 101, 99, 116]) && (b1 && b2)))) = R) := hR
 clear hR
 have fH : Hid (∀ g W, Calls Tryz.prog 98 #[.int .i64 f, .int .i64 g] W fun e w' => e = .returned (.bool (hasB f g)) ∧ w' = W) := fun g W => hasFlag_calls f g W
 cases h8 : hasB f 128 <;> rw [h8] at hRH
 ·go_enter Tryz.func118, Tryz.ntmps118
  go_wp2_with (go_at_call 98; refine (fH.out _ _).mono ?_; rintro e w2 ⟨rfl, rfl⟩)
  go_ret
  exact ⟨by rw [← hRH.out]; rfl, below_1 _ _⟩
 cases h4 : hasB f 4 <;> rw [h4] at hRH
 ·go_enter Tryz.func118, Tryz.ntmps118
  go_wp2_with (go_at_call 98; refine (fH.out _ _).mono ?_; rintro e w2 ⟨rfl, rfl⟩)
  go_ret
  exact ⟨by rw [← hRH.out]; rfl, below_1 _ _⟩
 cases hs : (S.toList == [79, 98, 106, 101, 99, 116]) <;> rw [hs] at hRH
 ·go_enter Tryz.func118, Tryz.ntmps118
  go_wp2_with (go_at_call 98; refine (fH.out _ _).mono ?_; rintro e w2 ⟨rfl, rfl⟩)
  go_ret
  exact ⟨by rw [← hRH.out]; rfl, below_1 _ _⟩
 go_enter Tryz.func118, Tryz.ntmps118
 go_wp2_with (go_at_call 98; refine (fH.out _ _).mono ?_; rintro e w2 ⟨rfl, rfl⟩)
 obtain ⟨W0, hW0⟩ : ∃ W : World, W = w.alloc (.cells #[.string N, .string S, .slice a1 n1 c1, .int .i64 f, .slice a2 n2 c2, .slice a3 n3 c3, .slice a4 n4 c4] 49) := ⟨_, rfl⟩
 rw [← hW0]
 have r0 : Hid (Rec1 w W0 [.string N, .string S, .slice a1 n1 c1, .int .i64 f, .slice a2 n2 c2, .slice a3 n3 c3, .slice a4 n4 c4]) := Rec1.start hW0
 clear hW0
 refine (qq1.out _ r0.out.hb).mono ?_
 rintro e w1 ⟨rfl, hb1⟩
 have r1 : Hid (Rec1 w w1 [.string N, .string S, .slice a1 n1 c1, .int .i64 f, .slice a2 n2 c2, .slice a3 n3 c3, .slice a4 n4 c4]) := r0.out.call hb1
 clear hb1
 have y6 := r1.out.cell 6 _ rfl
 cases b1 with
 | false =>
  go_wp2
  go_ret
  exact ⟨by rw [← hRH.out]; rfl, r1.out.hb⟩
 | true =>
  go_wp2_with fail
  clear y6
  refine (qq2.out _ r1.out.hb).mono ?_
  rintro e w2 ⟨rfl, hb2⟩
  have r2 : Hid (Rec1 w w2 [.string N, .string S, .slice a1 n1 c1, .int .i64 f, .slice a2 n2 c2, .slice a3 n3 c3, .slice a4 n4 c4]) := r1.out.call hb2
  clear hb2
  go_wp2
  go_ret
  exact ⟨by rw [← hRH.out]; rfl, r2.out.hb⟩
theorem classWalk (N S : ByteArray) (f : Int) (a1 : Option Addr) (n1 c1 : Nat) (a2 : Option Addr) (n2 c2 : Nat) (a3 : Option Addr) (n3 c3 : Nat) (a4 : Option Addr) (n4 c4 : Nat) (b1 b2 b3 b4 b5 b6 b7 b8 : Bool) (w : World)
  (q1 : ∀ W, Below w.heap.size w W → Calls Tryz.prog 111 #[.string N] W fun e w' => e = .returned (.bool b1) ∧ Below W.heap.size W w')
  (q2 : ∀ W, Below w.heap.size w W → Calls Tryz.prog 112 #[.agg #[.string N, .string S, .slice a1 n1 c1, .int .i64 f, .slice a2 n2 c2, .slice a3 n3 c3, .slice a4 n4 c4]] W fun e w' => e = .returned (.bool b2) ∧ Below W.heap.size W w')
  (q3 : ∀ W, Below w.heap.size w W → Calls Tryz.prog 113 #[.int .i64 f, .int .i64 390] W fun e w' => e = .returned (.bool b3) ∧ Below W.heap.size W w')
  (q4 : ∀ W, Below w.heap.size w W → Calls Tryz.prog 114 #[.agg #[.string N, .string S, .slice a1 n1 c1, .int .i64 f, .slice a2 n2 c2, .slice a3 n3 c3, .slice a4 n4 c4]] W fun e w' => e = .returned (.bool b4) ∧ Below W.heap.size W w')
  (q5 : ∀ W, Below w.heap.size w W → Calls Tryz.prog 115 #[.agg #[.string N, .string S, .slice a1 n1 c1, .int .i64 f, .slice a2 n2 c2, .slice a3 n3 c3, .slice a4 n4 c4]] W fun e w' => e = .returned (.bool b5) ∧ Below W.heap.size W w')
  (q6 : ∀ W, Below w.heap.size w W → Calls Tryz.prog 116 #[.agg #[.string N, .string S, .slice a1 n1 c1, .int .i64 f, .slice a2 n2 c2, .slice a3 n3 c3, .slice a4 n4 c4]] W fun e w' => e = .returned (.bool b6) ∧ Below W.heap.size W w')
  (q7 : ∀ W, Below w.heap.size w W → Calls Tryz.prog 117 #[.agg #[.string N, .string S, .slice a1 n1 c1, .int .i64 f, .slice a2 n2 c2, .slice a3 n3 c3, .slice a4 n4 c4]] W fun e w' => e = .returned (.bool b7) ∧ Below W.heap.size W w')
  (q8 : ∀ W, Below w.heap.size w W → Calls Tryz.prog 118 #[.agg #[.string N, .string S, .slice a1 n1 c1, .int .i64 f, .slice a2 n2 c2, .slice a3 n3 c3, .slice a4 n4 c4]] W fun e w' => e = .returned (.bool b8) ∧ Below W.heap.size W w') :
  Calls Tryz.prog 82 #[.agg #[.string N, .string S, .slice a1 n1 c1, .int .i64 f, .slice a2 n2 c2, .slice a3 n3 c3, .slice a4 n4 c4]] w fun e w' => e = .returned (.bool (b1 && (b2 && (b3 && (b4 && (b5 && (b6 && (b7 && b8)))))))) ∧ Below w.heap.size w w' := by
 have qq1 : Hid (∀ W, Below w.heap.size w W → Calls Tryz.prog 111 #[.string N] W fun e w' => e = .returned (.bool b1) ∧ Below W.heap.size W w') := q1
 have qq2 : Hid (∀ W, Below w.heap.size w W → Calls Tryz.prog 112 #[.agg #[.string N, .string S, .slice a1 n1 c1, .int .i64 f, .slice a2 n2 c2, .slice a3 n3 c3, .slice a4 n4 c4]] W fun e w' => e = .returned (.bool b2) ∧ Below W.heap.size W w') := q2
 have qq3 : Hid (∀ W, Below w.heap.size w W → Calls Tryz.prog 113 #[.int .i64 f, .int .i64 390] W fun e w' => e = .returned (.bool b3) ∧ Below W.heap.size W w') := q3
 have qq4 : Hid (∀ W, Below w.heap.size w W → Calls Tryz.prog 114 #[.agg #[.string N, .string S, .slice a1 n1 c1, .int .i64 f, .slice a2 n2 c2, .slice a3 n3 c3, .slice a4 n4 c4]] W fun e w' => e = .returned (.bool b4) ∧ Below W.heap.size W w') := q4
 have qq5 : Hid (∀ W, Below w.heap.size w W → Calls Tryz.prog 115 #[.agg #[.string N, .string S, .slice a1 n1 c1, .int .i64 f, .slice a2 n2 c2, .slice a3 n3 c3, .slice a4 n4 c4]] W fun e w' => e = .returned (.bool b5) ∧ Below W.heap.size W w') := q5
 have qq6 : Hid (∀ W, Below w.heap.size w W → Calls Tryz.prog 116 #[.agg #[.string N, .string S, .slice a1 n1 c1, .int .i64 f, .slice a2 n2 c2, .slice a3 n3 c3, .slice a4 n4 c4]] W fun e w' => e = .returned (.bool b6) ∧ Below W.heap.size W w') := q6
 have qq7 : Hid (∀ W, Below w.heap.size w W → Calls Tryz.prog 117 #[.agg #[.string N, .string S, .slice a1 n1 c1, .int .i64 f, .slice a2 n2 c2, .slice a3 n3 c3, .slice a4 n4 c4]] W fun e w' => e = .returned (.bool b7) ∧ Below W.heap.size W w') := q7
 have qq8 : Hid (∀ W, Below w.heap.size w W → Calls Tryz.prog 118 #[.agg #[.string N, .string S, .slice a1 n1 c1, .int .i64 f, .slice a2 n2 c2, .slice a3 n3 c3, .slice a4 n4 c4]] W fun e w' => e = .returned (.bool b8) ∧ Below W.heap.size W w') := q8
 clear q1 q2 q3 q4 q5 q6 q7 q8
 obtain ⟨R, hR⟩ : ∃ R, (b1 && (b2 && (b3 && (b4 && (b5 && (b6 && (b7 && b8))))))) = R := ⟨_, rfl⟩
 rw [hR]
 have hRH : Hid ((b1 && (b2 && (b3 && (b4 && (b5 && (b6 && (b7 && b8))))))) = R) := hR
 clear hR
 go_enter Tryz.func82, Tryz.ntmps82
 go_wp2_with fail
 obtain ⟨W0, hW0⟩ : ∃ W : World, W = w.alloc (.cells #[.string N, .string S, .slice a1 n1 c1, .int .i64 f, .slice a2 n2 c2, .slice a3 n3 c3, .slice a4 n4 c4] 49) := ⟨_, rfl⟩
 rw [← hW0]
 have r0 : Hid (Rec1 w W0 [.string N, .string S, .slice a1 n1 c1, .int .i64 f, .slice a2 n2 c2, .slice a3 n3 c3, .slice a4 n4 c4]) := Rec1.start hW0
 clear hW0
 refine (qq1.out _ r0.out.hb).mono ?_
 rintro e w1 ⟨rfl, hb1⟩
 have r1 : Hid (Rec1 w w1 [.string N, .string S, .slice a1 n1 c1, .int .i64 f, .slice a2 n2 c2, .slice a3 n3 c3, .slice a4 n4 c4]) := r0.out.call hb1
 clear hb1
 have y0 := r1.out.cell 0 _ rfl
 have y1 := r1.out.cell 1 _ rfl
 have y2 := r1.out.cell 2 _ rfl
 have y3 := r1.out.cell 3 _ rfl
 have y4 := r1.out.cell 4 _ rfl
 have y5 := r1.out.cell 5 _ rfl
 have y6 := r1.out.cell 6 _ rfl
 cases b1 with
 | false =>
  go_wp2
  go_ret
  exact ⟨by rw [← hRH.out]; rfl, r1.out.hb⟩
 | true =>
  go_wp2_with fail
  clear y0 y1 y2 y3 y4 y5 y6
  refine (qq2.out _ r1.out.hb).mono ?_
  rintro e w2 ⟨rfl, hb2⟩
  have r2 : Hid (Rec1 w w2 [.string N, .string S, .slice a1 n1 c1, .int .i64 f, .slice a2 n2 c2, .slice a3 n3 c3, .slice a4 n4 c4]) := r1.out.call hb2
  clear hb2
  have y0 := r2.out.cell 0 _ rfl
  have y1 := r2.out.cell 1 _ rfl
  have y2 := r2.out.cell 2 _ rfl
  have y3 := r2.out.cell 3 _ rfl
  have y4 := r2.out.cell 4 _ rfl
  have y5 := r2.out.cell 5 _ rfl
  have y6 := r2.out.cell 6 _ rfl
  cases b2 with
  | false =>
   go_wp2
   go_ret
   exact ⟨by rw [← hRH.out]; rfl, r2.out.hb⟩
  | true =>
   go_wp2_with fail
   clear y0 y1 y2 y3 y4 y5 y6
   refine (qq3.out _ r2.out.hb).mono ?_
   rintro e w3 ⟨rfl, hb3⟩
   have r3 : Hid (Rec1 w w3 [.string N, .string S, .slice a1 n1 c1, .int .i64 f, .slice a2 n2 c2, .slice a3 n3 c3, .slice a4 n4 c4]) := r2.out.call hb3
   clear hb3
   have y0 := r3.out.cell 0 _ rfl
   have y1 := r3.out.cell 1 _ rfl
   have y2 := r3.out.cell 2 _ rfl
   have y3 := r3.out.cell 3 _ rfl
   have y4 := r3.out.cell 4 _ rfl
   have y5 := r3.out.cell 5 _ rfl
   have y6 := r3.out.cell 6 _ rfl
   cases b3 with
   | false =>
    go_wp2
    go_ret
    exact ⟨by rw [← hRH.out]; rfl, r3.out.hb⟩
   | true =>
    go_wp2_with fail
    clear y0 y1 y2 y3 y4 y5 y6
    refine (qq4.out _ r3.out.hb).mono ?_
    rintro e w4 ⟨rfl, hb4⟩
    have r4 : Hid (Rec1 w w4 [.string N, .string S, .slice a1 n1 c1, .int .i64 f, .slice a2 n2 c2, .slice a3 n3 c3, .slice a4 n4 c4]) := r3.out.call hb4
    clear hb4
    have y0 := r4.out.cell 0 _ rfl
    have y1 := r4.out.cell 1 _ rfl
    have y2 := r4.out.cell 2 _ rfl
    have y3 := r4.out.cell 3 _ rfl
    have y4 := r4.out.cell 4 _ rfl
    have y5 := r4.out.cell 5 _ rfl
    have y6 := r4.out.cell 6 _ rfl
    cases b4 with
    | false =>
     go_wp2
     go_ret
     exact ⟨by rw [← hRH.out]; rfl, r4.out.hb⟩
    | true =>
     go_wp2_with fail
     clear y0 y1 y2 y3 y4 y5 y6
     refine (qq5.out _ r4.out.hb).mono ?_
     rintro e w5 ⟨rfl, hb5⟩
     have r5 : Hid (Rec1 w w5 [.string N, .string S, .slice a1 n1 c1, .int .i64 f, .slice a2 n2 c2, .slice a3 n3 c3, .slice a4 n4 c4]) := r4.out.call hb5
     clear hb5
     have y0 := r5.out.cell 0 _ rfl
     have y1 := r5.out.cell 1 _ rfl
     have y2 := r5.out.cell 2 _ rfl
     have y3 := r5.out.cell 3 _ rfl
     have y4 := r5.out.cell 4 _ rfl
     have y5 := r5.out.cell 5 _ rfl
     have y6 := r5.out.cell 6 _ rfl
     cases b5 with
     | false =>
      go_wp2
      go_ret
      exact ⟨by rw [← hRH.out]; rfl, r5.out.hb⟩
     | true =>
      go_wp2_with fail
      clear y0 y1 y2 y3 y4 y5 y6
      refine (qq6.out _ r5.out.hb).mono ?_
      rintro e w6 ⟨rfl, hb6⟩
      have r6 : Hid (Rec1 w w6 [.string N, .string S, .slice a1 n1 c1, .int .i64 f, .slice a2 n2 c2, .slice a3 n3 c3, .slice a4 n4 c4]) := r5.out.call hb6
      clear hb6
      have y0 := r6.out.cell 0 _ rfl
      have y1 := r6.out.cell 1 _ rfl
      have y2 := r6.out.cell 2 _ rfl
      have y3 := r6.out.cell 3 _ rfl
      have y4 := r6.out.cell 4 _ rfl
      have y5 := r6.out.cell 5 _ rfl
      have y6 := r6.out.cell 6 _ rfl
      cases b6 with
      | false =>
       go_wp2
       go_ret
       exact ⟨by rw [← hRH.out]; rfl, r6.out.hb⟩
      | true =>
       go_wp2_with fail
       clear y0 y1 y2 y3 y4 y5 y6
       refine (qq7.out _ r6.out.hb).mono ?_
       rintro e w7 ⟨rfl, hb7⟩
       have r7 : Hid (Rec1 w w7 [.string N, .string S, .slice a1 n1 c1, .int .i64 f, .slice a2 n2 c2, .slice a3 n3 c3, .slice a4 n4 c4]) := r6.out.call hb7
       clear hb7
       have y0 := r7.out.cell 0 _ rfl
       have y1 := r7.out.cell 1 _ rfl
       have y2 := r7.out.cell 2 _ rfl
       have y3 := r7.out.cell 3 _ rfl
       have y4 := r7.out.cell 4 _ rfl
       have y5 := r7.out.cell 5 _ rfl
       have y6 := r7.out.cell 6 _ rfl
       cases b7 with
       | false =>
        go_wp2
        go_ret
        exact ⟨by rw [← hRH.out]; rfl, r7.out.hb⟩
       | true =>
        go_wp2_with fail
        clear y0 y1 y2 y3 y4 y5 y6
        refine (qq8.out _ r7.out.hb).mono ?_
        rintro e w8 ⟨rfl, hb8⟩
        have r8 : Hid (Rec1 w w8 [.string N, .string S, .slice a1 n1 c1, .int .i64 f, .slice a2 n2 c2, .slice a3 n3 c3, .slice a4 n4 c4]) := r7.out.call hb8
        clear hb8
        go_wp2
        go_ret
        exact ⟨by rw [← hRH.out]; rfl, r8.out.hb⟩
end Go.Proofs.YtjjccimeikkogaaGreatDoor
