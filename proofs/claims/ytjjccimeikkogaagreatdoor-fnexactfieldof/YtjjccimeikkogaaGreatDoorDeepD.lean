import Derived.Test.YtjjccimeikkogaaGreatDoorDeepA
import Derived.Deep.RegionHeld3
import Derived.Test.YtjjccimeikkogaaGreatDoorInsG
import Derived.Deep.Slices
set_option maxRecDepth 1000000
set_option maxHeartbeats 4000000
namespace Go.Proofs.YtjjccimeikkogaaGreatDoor
set_option linter.unusedVariables false
open Go.ChangeShapes Go.WideShapes Go.ChangeAt Go.RowKit
theorem below_on {w W w' : World} (h : Below w.heap.size w W) (h2 : Below W.heap.size W w') : Below w.heap.size w w' := h.trans (h2.mono h.size)
def ElemEq {α : Type} (f k : Nat) (R : Rd α) (x : α) : Prop := ∀ (W : World) (r1 r2 : List Value) (lo1 hi1 lo2 hi2 : Nat), hi1 ≤ W.heap.size → hi2 ≤ W.heap.size → R true lo1 hi1 W r1 x → R true lo2 hi2 W r2 x → r1.length = k → r2.length = k → Calls Tryz.prog f #[.agg r1.toArray, .agg r2.toArray] W fun e w' => e = .returned (.bool true) ∧ Below W.heap.size W w'
theorem below_2 (w : World) (a b : Obj) : Below w.heap.size w ((w.alloc a).alloc b) := ((Below.refl _ _).alloc (Nat.le_refl _) _).alloc (by simp) _
theorem ListAt.tab {lo hi : Nat} {w : World} {v : Value} {zs : List Int} (h : ListAt IntR 1 true lo hi w v zs) (hh : hi ≤ w.heap.size) : Tab w v zs := by
 rcases h with ⟨h, _⟩ | ⟨b, off, c, hv, hlo, hhi, ho, hc⟩
 ·cases h
 ·have h0 := ho rfl
  subst h0
  refine .inr ⟨b, c, hv, by omega, fun j hj => ?_⟩
  obtain ⟨row, hl, hr, hx⟩ := hc j hj
  have : row = [.int .i64 zs[j]] := hx
  simpa using hr 0 (.int .i64 zs[j]) (by rw [this]; rfl)
theorem ListAt.strAt {own : Bool} {lo hi : Nat} {w : World} {a : Option Addr} {n c : Nat} {ss : List ByteArray} (h : ListAt StrR 1 own lo hi w (.slice a n c) ss) (j : Nat) (hj : j < ss.length) : ∃ b off, a = some ⟨b, off, none⟩ ∧ w.cell? ⟨b, off + j, none⟩ = some (.string ss[j]) := by
 obtain ⟨b, off, row, h1, _, hl, hr, hx⟩ := h.at j hj
 have : row = [.string ss[j]] := hx
 exact ⟨b, off, h1, by simpa using hr 0 (.string ss[j]) (by rw [this]; rfl)⟩
theorem eqStrs_calls (u v : Value) (xs : List ByteArray) (w : World) (o1 o2 : Bool) (lo1 hi1 lo2 hi2 : Nat) (hu : ListAt StrR 1 o1 lo1 hi1 w u xs) (hv : ListAt StrR 1 o2 lo2 hi2 w v xs) (hx : xs.length ≤ 1048576) :
  Calls Tryz.prog 11 #[u, v] w fun e w' => e = .returned (.bool true) ∧ ∃ n, w' = w.drewN n := by
 obtain ⟨a, c, rfl⟩ := hu.form
 obtain ⟨a2, c2, rfl⟩ := hv.form
 have cu : Hid (∀ k (h : k < xs.length), ∃ b off, a = some ⟨b, off, none⟩ ∧ w.cell? ⟨b, off + k, none⟩ = some (.string xs[k])) := fun k h => hu.strAt k h
 have cv : Hid (∀ k (h : k < xs.length), ∃ b off, a2 = some ⟨b, off, none⟩ ∧ w.cell? ⟨b, off + k, none⟩ = some (.string xs[k])) := fun k h => hv.strAt k h
 clear hu hv
 go_enter Tryz.func11, Tryz.ntmps11
 go_wp2
 go_loopw [5] (fun i wr => ∃ k n : Nat, k ≤ xs.length ∧ i = .int .i64 k ∧ wr = w.drewN n) (fun i _ => xs.length - (intOf i).toNat)
 case atStart => exact ⟨0, 0, Nat.zero_le _, rfl, rfl⟩
 case round =>
  obtain ⟨k, n, hk, rfl, rfl⟩ := hrel
  by_cases hlt : k < xs.length
  ·obtain ⟨b, off, rfl, hcell⟩ := cu.out k hlt
   obtain ⟨b2, off2, rfl, hcell2⟩ := cv.out k hlt
   have hlt' : (k : Int) < (xs.length : Int) := by omega
   obtain ⟨s, hs⟩ : ∃ s, s = xs[k] := ⟨_, rfl⟩
   rw [← hs] at hcell hcell2
   have hss : (s.toList != s.toList) = false := by simp
   clear hs
   go_wp2
   go_quiet (fail)
   go_wp2
   go_roundw
   case rel => exact ⟨k + 1, _, by omega, by go_num, rfl⟩
   case measure => simp [intOf]; omega
  ·go_wp2
   go_ret
   exact ⟨rfl, _, rfl⟩
theorem eqHand_calls (x : HandL) : ElemEq 164 4 HandR x := by
 intro w r1 r2 lo1 hi1 lo2 hi2 h1 h2 hx1 hx2 hl1 hl2
 obtain rfl : r1 = [.int .i64 x.fr, .int .i64 x.to, .int .i64 x.at', .string x.ty] := hx1
 obtain rfl : r2 = [.int .i64 x.fr, .int .i64 x.to, .int .i64 x.at', .string x.ty] := hx2
 have b0 : (x.fr != x.fr) = false := by simp
 have b1 : (x.to != x.to) = false := by simp
 have b2 : (x.at' != x.at') = false := by simp
 have b3 : (x.ty.toList != x.ty.toList) = false := by simp
 clear hl1 hl2 h1 h2
 go_enter Tryz.func164, Tryz.ntmps164
 go_wp2
 go_ret
 exact ⟨rfl, below_2 _ _ _⟩
theorem eqLine_calls (x : LineL) : ElemEq 166 2 LineR x := by
 intro w r1 r2 lo1 hi1 lo2 hi2 h1 h2 hx1 hx2 hl1 hl2
 obtain rfl : r1 = [.int .i64 x.at', .int .i64 x.n] := hx1
 obtain rfl : r2 = [.int .i64 x.at', .int .i64 x.n] := hx2
 have b0 : (x.at' != x.at') = false := by simp
 have b1 : (x.n != x.n) = false := by simp
 clear hl1 hl2 h1 h2
 go_enter Tryz.func166, Tryz.ntmps166
 go_wp2
 go_ret
 exact ⟨rfl, below_2 _ _ _⟩
theorem eqFrame_calls (x : FrameL) (hy : x.small) : ElemEq 165 3 FrameR x := by
 intro w r1 r2 lo1 hi1 lo2 hi2 h1 h2 hx1 hx2 hl1 hl2
 obtain ⟨p1, q1, rfl, hp1, hq1⟩ := hx1
 obtain ⟨p2, q2, rfl, hp2, hq2⟩ := hx2
 have cp : Hid (∀ W, Below w.heap.size w W → Calls Tryz.prog 11 #[p1, p2] W fun e w' => e = .returned (.bool true) ∧ ∃ n, w' = W.drewN n) := fun W hW =>
  eqStrs_calls p1 p2 x.locs W true true lo1 hi1 lo2 hi2 (hp1.kept StrR.stable (Nat.le_refl _) (Nat.le_refl _) ((Same.below hW).mono (Nat.zero_le _) h1)) (hp2.kept StrR.stable (Nat.le_refl _) (Nat.le_refl _) ((Same.below hW).mono (Nat.zero_le _) h2)) hy.1
 have cq : Hid (∀ W, Below w.heap.size w W → Calls Tryz.prog 11 #[q1, q2] W fun e w' => e = .returned (.bool true) ∧ ∃ n, w' = W.drewN n) := fun W hW =>
  eqStrs_calls q1 q2 x.stk W true true lo1 hi1 lo2 hi2 (hq1.kept StrR.stable (Nat.le_refl _) (Nat.le_refl _) ((Same.below hW).mono (Nat.zero_le _) h1)) (hq2.kept StrR.stable (Nat.le_refl _) (Nat.le_refl _) ((Same.below hW).mono (Nat.zero_le _) h2)) hy.2.1
 obtain ⟨a1, c1, rfl⟩ := hp1.form
 obtain ⟨a2, c2, rfl⟩ := hp2.form
 obtain ⟨a3, c3, rfl⟩ := hq1.form
 obtain ⟨a4, c4, rfl⟩ := hq2.form
 have b0 : (x.at' != x.at') = false := by simp
 clear hp1 hp2 hq1 hq2 hl1 hl2 h1 h2 hy
 have cc : Hid (∀ u v W, Below w.heap.size w W → ((u = Value.slice a1 x.locs.length c1 ∧ v = Value.slice a2 x.locs.length c2) ∨ (u = Value.slice a3 x.stk.length c3 ∧ v = Value.slice a4 x.stk.length c4)) → Calls Tryz.prog 11 #[u, v] W fun e w' => e = .returned (.bool true) ∧ ∃ n, w' = W.drewN n) := fun u v W hW h => by
  rcases h with ⟨rfl, rfl⟩ | ⟨rfl, rfl⟩
  ·exact cp.out W hW
  ·exact cq.out W hW
 clear cp cq
 go_enter Tryz.func165, Tryz.ntmps165
 go_wp2_with (go_at_call 11; refine (cc.out _ _ _ (by first | exact below_2 _ _ _ | exact below_drewN (below_2 _ _ _) _) (by first | exact .inl ⟨rfl, rfl⟩ | exact .inr ⟨rfl, rfl⟩)).mono ?_; rintro e w1 ⟨rfl, nq, rfl⟩)
 go_ret
 exact ⟨rfl, by first | exact below_drewN (below_drewN (below_2 _ _ _) _) _ | exact below_drewN (below_2 _ _ _) _⟩
theorem eqInsL_calls (x : InsL) (hy : x.small) : ElemEq 163 9 InsR x := by
 intro w r1 r2 lo1 hi1 lo2 hi2 h1 h2 hx1 hx2 hl1 hl2
 obtain ⟨p1, rfl, hp1⟩ := hx1
 obtain ⟨p2, rfl, hp2⟩ := hx2
 have cp : Hid (∀ W, Below w.heap.size w W → Calls Tryz.prog 185 #[p1, p2] W fun e w' => e = .returned (.bool true) ∧ ∃ n, w' = W.drewN n) := fun W hW => by
  have := eqInts_calls p1 p2 x.zs x.zs W ((hp1.kept IntR.stable (Nat.le_refl _) (Nat.le_refl _) ((Same.below hW).mono (Nat.zero_le _) h1)).tab (Nat.le_trans h1 hW.size)) ((hp2.kept IntR.stable (Nat.le_refl _) (Nat.le_refl _) ((Same.below hW).mono (Nat.zero_le _) h2)).tab (Nat.le_trans h2 hW.size)) hy.2.2.2.2 hy.2.2.2.2
  rwa [show (x.zs == x.zs) = true from by simp] at this
 obtain ⟨a1, c1, rfl⟩ := hp1.form
 obtain ⟨a2, c2, rfl⟩ := hp2.form
 have b1 : (x.o != x.o) = false := by simp
 have b2 : (x.k != x.k) = false := by simp
 have b3 : (x.a != x.a) = false := by simp
 have b4 : (x.b != x.b) = false := by simp
 have b5 : (x.T.toList != x.T.toList) = false := by simp
 have b6 : (x.C.toList != x.C.toList) = false := by simp
 have b7 : (x.N.toList != x.N.toList) = false := by simp
 have b8 : (x.Y.toList != x.Y.toList) = false := by simp
 clear hp1 hp2 hl1 hl2 h1 h2 hy
 go_enter Tryz.func163, Tryz.ntmps163
 go_wp2_with (go_at_call 185; refine (cp.out _ (below_2 _ _ _)).mono ?_; rintro e w1 ⟨rfl, nq, rfl⟩)
 go_ret
 exact ⟨rfl, below_drewN (below_2 _ _ _) _⟩
structure Rec2 (w W : World) (I J : List Value) : Prop where
 hb : Below w.heap.size w W
 sz : w.heap.size + 2 ≤ W.heap.size
 one : W.rangeAt w.heap.size 0 I
 two : W.rangeAt (w.heap.size + 1) 0 J
theorem Rec2.start {w W : World} {I J : Array Value} {t t' : TypeId} (hW : W = (w.alloc (.cells I t)).alloc (.cells J t')) : Rec2 w W I.toList J.toList := by
 have h1 : W.heap[w.heap.size + 1]? = some (.cells J t' (0, 0)) := by
  rw [hW]
  have h := heap_alloc_new (w.alloc (.cells I t)) (.cells J t')
  simpa using h
 have h0 : W.heap[w.heap.size]? = some (.cells I t (0, 0)) := by
  rw [hW, Below.heap_alloc _ _ _ (by simp)]
  exact heap_alloc_new w _
 exact ⟨by rw [hW]; exact below_2 _ _ _, by rw [hW]; simp, rangeAt_heap h0, rangeAt_heap h1⟩
theorem Rec2.call {w W w1 : World} {I J : List Value} (h : Rec2 w W I J) (hb : Below W.heap.size W w1) : Rec2 w w1 I J := by
 obtain ⟨h1, h2, h3, h4⟩ := h
 have := hb.size
 exact ⟨below_on h1 hb, by omega, rangeAt_same (Same.below hb) (Nat.zero_le _) (by omega) h3, rangeAt_same (Same.below hb) (Nat.zero_le _) (by omega) h4⟩
theorem Rec2.cell1 {w W : World} {I J : List Value} (h : Rec2 w W I J) (i : Nat) (v : Value) (hv : I[i]? = some v) : W.cell? ⟨w.heap.size, i, none⟩ = some v := by simpa using h.one i v hv
theorem Rec2.cell2 {w W : World} {I J : List Value} (h : Rec2 w W I J) (i : Nat) (v : Value) (hv : J[i]? = some v) : W.cell? ⟨w.heap.size + 1, i, none⟩ = some v := by simpa using h.two i v hv
theorem eqInsS_calls (u v : Value) (xs : List InsL) (w : World) (lo1 hi1 lo2 hi2 : Nat) (h1 : hi1 ≤ w.heap.size) (h2 : hi2 ≤ w.heap.size) (hu : ListAt InsR 9 true lo1 hi1 w u xs) (hv : ListAt InsR 9 true lo2 hi2 w v xs) (hn : xs.length ≤ 1048576) (hel : ∀ x ∈ xs, ElemEq 163 9 InsR x) :
  Calls Tryz.prog 125 #[u, v] w fun e w' => e = .returned (.bool true) ∧ Below w.heap.size w w' := by
 obtain ⟨a, c, rfl⟩ := hu.form
 obtain ⟨a2, c2, rfl⟩ := hv.form
 have helH : Hid (∀ x ∈ xs, ElemEq 163 9 InsR x) := hel
 have huH : Hid (∀ wr, Below w.heap.size w wr → ListAt InsR 9 true lo1 hi1 wr (.slice a xs.length c) xs) := fun wr hw => hu.kept InsR.stable (Nat.le_refl _) (Nat.le_refl _) ((Same.below hw).mono (Nat.zero_le _) h1)
 have hvH : Hid (∀ wr, Below w.heap.size w wr → ListAt InsR 9 true lo2 hi2 wr (.slice a2 xs.length c2) xs) := fun wr hw => hv.kept InsR.stable (Nat.le_refl _) (Nat.le_refl _) ((Same.below hw).mono (Nat.zero_le _) h2)
 have hhH : Hid (hi1 ≤ w.heap.size ∧ hi2 ≤ w.heap.size) := ⟨h1, h2⟩
 clear hu hv hel h1 h2
 go_enter Tryz.func125, Tryz.ntmps125
 go_wp2
 go_loopw [5] (fun i wr => ∃ m : Nat, m ≤ xs.length ∧ i = .int .i64 m ∧ Hid (Below w.heap.size w wr)) (fun i _ => xs.length - (intOf i).toNat)
 case atStart => exact ⟨0, Nat.zero_le _, rfl, Below.refl _ _⟩
 case round =>
  obtain ⟨m, hm, rfl, hB⟩ := hrel
  by_cases hlt : m < xs.length
  ·obtain ⟨b, off, r1, rfl, hb1, hl1, hr1, hx1⟩ := (huH.out wr hB.out).at m hlt
   obtain ⟨b', off', r2, rfl, hb2, hl2, hr2, hx2⟩ := (hvH.out wr hB.out).at m hlt
   have hlt' : (m : Int) < (xs.length : Int) := by omega
   have hsz := hB.out.size
   have hcH : Hid (∀ W, Below wr.heap.size wr W → Calls Tryz.prog 163 #[.agg r1.toArray, .agg r2.toArray] W fun e w' => e = .returned (.bool true) ∧ Below W.heap.size W w') := fun W hW =>
    helH.out xs[m] (List.getElem_mem hlt) W r1 r2 lo1 hi1 lo2 hi2 (by have := hW.size; have := hhH.out.1; omega) (by have := hW.size; have := hhH.out.2; omega)
     (InsR.stable _ _ _ _ _ _ _ _ _ hx1 (Nat.le_refl _) (Nat.le_refl _) ((Same.below hW).mono (Nat.zero_le _) (by have := hhH.out.1; omega)))
     (InsR.stable _ _ _ _ _ _ _ _ _ hx2 (Nat.le_refl _) (Nat.le_refl _) ((Same.below hW).mono (Nat.zero_le _) (by have := hhH.out.2; omega))) hl1 hl2
   obtain ⟨x, hx⟩ : ∃ x, x = xs[m] := ⟨_, rfl⟩
   rw [← hx] at hx1 hx2
   obtain ⟨p1, rfl, -⟩ := hx1
   obtain ⟨p2, rfl, -⟩ := hx2
   have hmk : Hid (∀ W, Below wr.heap.size wr W → (Below wr.heap.size wr W ∧ W.cell? ⟨b, off + m * 9, none⟩ = some (.int .i64 x.o) ∧ W.cell? ⟨b, off + m * 9 + 1, none⟩ = some (.int .i64 x.k) ∧ W.cell? ⟨b, off + m * 9 + 2, none⟩ = some (.int .i64 x.a) ∧ W.cell? ⟨b, off + m * 9 + 3, none⟩ = some (.int .i64 x.b) ∧ W.cell? ⟨b, off + m * 9 + 4, none⟩ = some (.string x.T) ∧ W.cell? ⟨b, off + m * 9 + 5, none⟩ = some (.string x.C) ∧ W.cell? ⟨b, off + m * 9 + 6, none⟩ = some (.string x.N) ∧ W.cell? ⟨b, off + m * 9 + 7, none⟩ = some (.string x.Y) ∧ W.cell? ⟨b, off + m * 9 + 8, none⟩ = some (p1) ∧ W.cell? ⟨b', off' + m * 9, none⟩ = some (.int .i64 x.o) ∧ W.cell? ⟨b', off' + m * 9 + 1, none⟩ = some (.int .i64 x.k) ∧ W.cell? ⟨b', off' + m * 9 + 2, none⟩ = some (.int .i64 x.a) ∧ W.cell? ⟨b', off' + m * 9 + 3, none⟩ = some (.int .i64 x.b) ∧ W.cell? ⟨b', off' + m * 9 + 4, none⟩ = some (.string x.T) ∧ W.cell? ⟨b', off' + m * 9 + 5, none⟩ = some (.string x.C) ∧ W.cell? ⟨b', off' + m * 9 + 6, none⟩ = some (.string x.N) ∧ W.cell? ⟨b', off' + m * 9 + 7, none⟩ = some (.string x.Y) ∧ W.cell? ⟨b', off' + m * 9 + 8, none⟩ = some (p2))) := fun W hW => by
    have kp1 := rangeAt_same (Same.below hW) (Nat.zero_le _) (show b < wr.heap.size by have := hhH.out.1; omega) hr1
    have kp2 := rangeAt_same (Same.below hW) (Nat.zero_le _) (show b' < wr.heap.size by have := hhH.out.2; omega) hr2
    exact ⟨hW, kp1 0 _ rfl, kp1 1 _ rfl, kp1 2 _ rfl, kp1 3 _ rfl, kp1 4 _ rfl, kp1 5 _ rfl, kp1 6 _ rfl, kp1 7 _ rfl, kp1 8 _ rfl, kp2 0 _ rfl, kp2 1 _ rfl, kp2 2 _ rfl, kp2 3 _ rfl, kp2 4 _ rfl, kp2 5 _ rfl, kp2 6 _ rfl, kp2 7 _ rfl, kp2 8 _ rfl⟩
   clear hr1 hr2 hl1 hl2 hsz hb1 hb2 hx
   have hS0 := hmk.out wr (Below.refl _ _)
   go_wp2
   go_region_held3 (fun W => Below wr.heap.size wr W ∧ W.cell? ⟨b, off + m * 9, none⟩ = some (.int .i64 x.o) ∧ W.cell? ⟨b, off + m * 9 + 1, none⟩ = some (.int .i64 x.k) ∧ W.cell? ⟨b, off + m * 9 + 2, none⟩ = some (.int .i64 x.a) ∧ W.cell? ⟨b, off + m * 9 + 3, none⟩ = some (.int .i64 x.b) ∧ W.cell? ⟨b, off + m * 9 + 4, none⟩ = some (.string x.T) ∧ W.cell? ⟨b, off + m * 9 + 5, none⟩ = some (.string x.C) ∧ W.cell? ⟨b, off + m * 9 + 6, none⟩ = some (.string x.N) ∧ W.cell? ⟨b, off + m * 9 + 7, none⟩ = some (.string x.Y) ∧ W.cell? ⟨b, off + m * 9 + 8, none⟩ = some (p1) ∧ W.cell? ⟨b', off' + m * 9, none⟩ = some (.int .i64 x.o) ∧ W.cell? ⟨b', off' + m * 9 + 1, none⟩ = some (.int .i64 x.k) ∧ W.cell? ⟨b', off' + m * 9 + 2, none⟩ = some (.int .i64 x.a) ∧ W.cell? ⟨b', off' + m * 9 + 3, none⟩ = some (.int .i64 x.b) ∧ W.cell? ⟨b', off' + m * 9 + 4, none⟩ = some (.string x.T) ∧ W.cell? ⟨b', off' + m * 9 + 5, none⟩ = some (.string x.C) ∧ W.cell? ⟨b', off' + m * 9 + 6, none⟩ = some (.string x.N) ∧ W.cell? ⟨b', off' + m * 9 + 7, none⟩ = some (.string x.Y) ∧ W.cell? ⟨b', off' + m * 9 + 8, none⟩ = some (p2)) (first | assumption | exact hmk.out _ (Below.drew (And.left (by assumption))) | exact hmk.out _ (below_on (And.left (by assumption)) (by assumption))) (first | (go_at_call 163; refine (hcH.out _ (by first | exact Below.refl _ _ | assumption | exact And.left (by assumption))).mono ?_; rintro e w2 ⟨rfl, hb2⟩))
   go_wp2
   go_roundw
   case rel => exact ⟨m + 1, by omega, by go_num, below_on hB.out (by first | assumption | exact And.left (by assumption))⟩
   case measure => simp [intOf]; omega
  ·go_wp2
   go_ret
   exact ⟨rfl, hB.out⟩
theorem eqHandS_calls (u v : Value) (xs : List HandL) (w : World) (lo1 hi1 lo2 hi2 : Nat) (h1 : hi1 ≤ w.heap.size) (h2 : hi2 ≤ w.heap.size) (hu : ListAt HandR 4 true lo1 hi1 w u xs) (hv : ListAt HandR 4 true lo2 hi2 w v xs) (hn : xs.length ≤ 1048576) (hel : ∀ x ∈ xs, ElemEq 164 4 HandR x) :
  Calls Tryz.prog 126 #[u, v] w fun e w' => e = .returned (.bool true) ∧ Below w.heap.size w w' := by
 obtain ⟨a, c, rfl⟩ := hu.form
 obtain ⟨a2, c2, rfl⟩ := hv.form
 have helH : Hid (∀ x ∈ xs, ElemEq 164 4 HandR x) := hel
 have huH : Hid (∀ wr, Below w.heap.size w wr → ListAt HandR 4 true lo1 hi1 wr (.slice a xs.length c) xs) := fun wr hw => hu.kept HandR.stable (Nat.le_refl _) (Nat.le_refl _) ((Same.below hw).mono (Nat.zero_le _) h1)
 have hvH : Hid (∀ wr, Below w.heap.size w wr → ListAt HandR 4 true lo2 hi2 wr (.slice a2 xs.length c2) xs) := fun wr hw => hv.kept HandR.stable (Nat.le_refl _) (Nat.le_refl _) ((Same.below hw).mono (Nat.zero_le _) h2)
 have hhH : Hid (hi1 ≤ w.heap.size ∧ hi2 ≤ w.heap.size) := ⟨h1, h2⟩
 clear hu hv hel h1 h2
 go_enter Tryz.func126, Tryz.ntmps126
 go_wp2
 go_loopw [5] (fun i wr => ∃ m : Nat, m ≤ xs.length ∧ i = .int .i64 m ∧ Hid (Below w.heap.size w wr)) (fun i _ => xs.length - (intOf i).toNat)
 case atStart => exact ⟨0, Nat.zero_le _, rfl, Below.refl _ _⟩
 case round =>
  obtain ⟨m, hm, rfl, hB⟩ := hrel
  by_cases hlt : m < xs.length
  ·obtain ⟨b, off, r1, rfl, hb1, hl1, hr1, hx1⟩ := (huH.out wr hB.out).at m hlt
   obtain ⟨b', off', r2, rfl, hb2, hl2, hr2, hx2⟩ := (hvH.out wr hB.out).at m hlt
   have hlt' : (m : Int) < (xs.length : Int) := by omega
   have hsz := hB.out.size
   have hcH : Hid (∀ W, Below wr.heap.size wr W → Calls Tryz.prog 164 #[.agg r1.toArray, .agg r2.toArray] W fun e w' => e = .returned (.bool true) ∧ Below W.heap.size W w') := fun W hW =>
    helH.out xs[m] (List.getElem_mem hlt) W r1 r2 lo1 hi1 lo2 hi2 (by have := hW.size; have := hhH.out.1; omega) (by have := hW.size; have := hhH.out.2; omega)
     (HandR.stable _ _ _ _ _ _ _ _ _ hx1 (Nat.le_refl _) (Nat.le_refl _) ((Same.below hW).mono (Nat.zero_le _) (by have := hhH.out.1; omega)))
     (HandR.stable _ _ _ _ _ _ _ _ _ hx2 (Nat.le_refl _) (Nat.le_refl _) ((Same.below hW).mono (Nat.zero_le _) (by have := hhH.out.2; omega))) hl1 hl2
   obtain ⟨x, hx⟩ : ∃ x, x = xs[m] := ⟨_, rfl⟩
   rw [← hx] at hx1 hx2
   obtain rfl : r1 = [.int .i64 x.fr, .int .i64 x.to, .int .i64 x.at', .string x.ty] := hx1
   obtain rfl : r2 = [.int .i64 x.fr, .int .i64 x.to, .int .i64 x.at', .string x.ty] := hx2
   have hmk : Hid (∀ W, Below wr.heap.size wr W → (Below wr.heap.size wr W ∧ W.cell? ⟨b, off + m * 4, none⟩ = some (.int .i64 x.fr) ∧ W.cell? ⟨b, off + m * 4 + 1, none⟩ = some (.int .i64 x.to) ∧ W.cell? ⟨b, off + m * 4 + 2, none⟩ = some (.int .i64 x.at') ∧ W.cell? ⟨b, off + m * 4 + 3, none⟩ = some (.string x.ty) ∧ W.cell? ⟨b', off' + m * 4, none⟩ = some (.int .i64 x.fr) ∧ W.cell? ⟨b', off' + m * 4 + 1, none⟩ = some (.int .i64 x.to) ∧ W.cell? ⟨b', off' + m * 4 + 2, none⟩ = some (.int .i64 x.at') ∧ W.cell? ⟨b', off' + m * 4 + 3, none⟩ = some (.string x.ty))) := fun W hW => by
    have kp1 := rangeAt_same (Same.below hW) (Nat.zero_le _) (show b < wr.heap.size by have := hhH.out.1; omega) hr1
    have kp2 := rangeAt_same (Same.below hW) (Nat.zero_le _) (show b' < wr.heap.size by have := hhH.out.2; omega) hr2
    exact ⟨hW, kp1 0 _ rfl, kp1 1 _ rfl, kp1 2 _ rfl, kp1 3 _ rfl, kp2 0 _ rfl, kp2 1 _ rfl, kp2 2 _ rfl, kp2 3 _ rfl⟩
   clear hr1 hr2 hl1 hl2 hsz hb1 hb2 hx
   have hS0 := hmk.out wr (Below.refl _ _)
   go_wp2
   go_region_held3 (fun W => Below wr.heap.size wr W ∧ W.cell? ⟨b, off + m * 4, none⟩ = some (.int .i64 x.fr) ∧ W.cell? ⟨b, off + m * 4 + 1, none⟩ = some (.int .i64 x.to) ∧ W.cell? ⟨b, off + m * 4 + 2, none⟩ = some (.int .i64 x.at') ∧ W.cell? ⟨b, off + m * 4 + 3, none⟩ = some (.string x.ty) ∧ W.cell? ⟨b', off' + m * 4, none⟩ = some (.int .i64 x.fr) ∧ W.cell? ⟨b', off' + m * 4 + 1, none⟩ = some (.int .i64 x.to) ∧ W.cell? ⟨b', off' + m * 4 + 2, none⟩ = some (.int .i64 x.at') ∧ W.cell? ⟨b', off' + m * 4 + 3, none⟩ = some (.string x.ty)) (first | assumption | exact hmk.out _ (Below.drew (And.left (by assumption))) | exact hmk.out _ (below_on (And.left (by assumption)) (by assumption))) (first | (go_at_call 164; refine (hcH.out _ (by first | exact Below.refl _ _ | assumption | exact And.left (by assumption))).mono ?_; rintro e w2 ⟨rfl, hb2⟩))
   go_wp2
   go_roundw
   case rel => exact ⟨m + 1, by omega, by go_num, below_on hB.out (by first | assumption | exact And.left (by assumption))⟩
   case measure => simp [intOf]; omega
  ·go_wp2
   go_ret
   exact ⟨rfl, hB.out⟩
theorem eqFrameS_calls (u v : Value) (xs : List FrameL) (w : World) (lo1 hi1 lo2 hi2 : Nat) (h1 : hi1 ≤ w.heap.size) (h2 : hi2 ≤ w.heap.size) (hu : ListAt FrameR 3 true lo1 hi1 w u xs) (hv : ListAt FrameR 3 true lo2 hi2 w v xs) (hn : xs.length ≤ 1048576) (hel : ∀ x ∈ xs, ElemEq 165 3 FrameR x) :
  Calls Tryz.prog 127 #[u, v] w fun e w' => e = .returned (.bool true) ∧ Below w.heap.size w w' := by
 obtain ⟨a, c, rfl⟩ := hu.form
 obtain ⟨a2, c2, rfl⟩ := hv.form
 have helH : Hid (∀ x ∈ xs, ElemEq 165 3 FrameR x) := hel
 have huH : Hid (∀ wr, Below w.heap.size w wr → ListAt FrameR 3 true lo1 hi1 wr (.slice a xs.length c) xs) := fun wr hw => hu.kept FrameR.stable (Nat.le_refl _) (Nat.le_refl _) ((Same.below hw).mono (Nat.zero_le _) h1)
 have hvH : Hid (∀ wr, Below w.heap.size w wr → ListAt FrameR 3 true lo2 hi2 wr (.slice a2 xs.length c2) xs) := fun wr hw => hv.kept FrameR.stable (Nat.le_refl _) (Nat.le_refl _) ((Same.below hw).mono (Nat.zero_le _) h2)
 have hhH : Hid (hi1 ≤ w.heap.size ∧ hi2 ≤ w.heap.size) := ⟨h1, h2⟩
 clear hu hv hel h1 h2
 go_enter Tryz.func127, Tryz.ntmps127
 go_wp2
 go_loopw [5] (fun i wr => ∃ m : Nat, m ≤ xs.length ∧ i = .int .i64 m ∧ Hid (Below w.heap.size w wr)) (fun i _ => xs.length - (intOf i).toNat)
 case atStart => exact ⟨0, Nat.zero_le _, rfl, Below.refl _ _⟩
 case round =>
  obtain ⟨m, hm, rfl, hB⟩ := hrel
  by_cases hlt : m < xs.length
  ·obtain ⟨b, off, r1, rfl, hb1, hl1, hr1, hx1⟩ := (huH.out wr hB.out).at m hlt
   obtain ⟨b', off', r2, rfl, hb2, hl2, hr2, hx2⟩ := (hvH.out wr hB.out).at m hlt
   have hlt' : (m : Int) < (xs.length : Int) := by omega
   have hsz := hB.out.size
   have hcH : Hid (∀ W, Below wr.heap.size wr W → Calls Tryz.prog 165 #[.agg r1.toArray, .agg r2.toArray] W fun e w' => e = .returned (.bool true) ∧ Below W.heap.size W w') := fun W hW =>
    helH.out xs[m] (List.getElem_mem hlt) W r1 r2 lo1 hi1 lo2 hi2 (by have := hW.size; have := hhH.out.1; omega) (by have := hW.size; have := hhH.out.2; omega)
     (FrameR.stable _ _ _ _ _ _ _ _ _ hx1 (Nat.le_refl _) (Nat.le_refl _) ((Same.below hW).mono (Nat.zero_le _) (by have := hhH.out.1; omega)))
     (FrameR.stable _ _ _ _ _ _ _ _ _ hx2 (Nat.le_refl _) (Nat.le_refl _) ((Same.below hW).mono (Nat.zero_le _) (by have := hhH.out.2; omega))) hl1 hl2
   obtain ⟨x, hx⟩ : ∃ x, x = xs[m] := ⟨_, rfl⟩
   rw [← hx] at hx1 hx2
   obtain ⟨p1, q1, rfl, -⟩ := hx1
   obtain ⟨p2, q2, rfl, -⟩ := hx2
   have hmk : Hid (∀ W, Below wr.heap.size wr W → (Below wr.heap.size wr W ∧ W.cell? ⟨b, off + m * 3, none⟩ = some (.int .i64 x.at') ∧ W.cell? ⟨b, off + m * 3 + 1, none⟩ = some (p1) ∧ W.cell? ⟨b, off + m * 3 + 2, none⟩ = some (q1) ∧ W.cell? ⟨b', off' + m * 3, none⟩ = some (.int .i64 x.at') ∧ W.cell? ⟨b', off' + m * 3 + 1, none⟩ = some (p2) ∧ W.cell? ⟨b', off' + m * 3 + 2, none⟩ = some (q2))) := fun W hW => by
    have kp1 := rangeAt_same (Same.below hW) (Nat.zero_le _) (show b < wr.heap.size by have := hhH.out.1; omega) hr1
    have kp2 := rangeAt_same (Same.below hW) (Nat.zero_le _) (show b' < wr.heap.size by have := hhH.out.2; omega) hr2
    exact ⟨hW, kp1 0 _ rfl, kp1 1 _ rfl, kp1 2 _ rfl, kp2 0 _ rfl, kp2 1 _ rfl, kp2 2 _ rfl⟩
   clear hr1 hr2 hl1 hl2 hsz hb1 hb2 hx
   have hS0 := hmk.out wr (Below.refl _ _)
   go_wp2
   go_region_held3 (fun W => Below wr.heap.size wr W ∧ W.cell? ⟨b, off + m * 3, none⟩ = some (.int .i64 x.at') ∧ W.cell? ⟨b, off + m * 3 + 1, none⟩ = some (p1) ∧ W.cell? ⟨b, off + m * 3 + 2, none⟩ = some (q1) ∧ W.cell? ⟨b', off' + m * 3, none⟩ = some (.int .i64 x.at') ∧ W.cell? ⟨b', off' + m * 3 + 1, none⟩ = some (p2) ∧ W.cell? ⟨b', off' + m * 3 + 2, none⟩ = some (q2)) (first | assumption | exact hmk.out _ (Below.drew (And.left (by assumption))) | exact hmk.out _ (below_on (And.left (by assumption)) (by assumption))) (first | (go_at_call 165; refine (hcH.out _ (by first | exact Below.refl _ _ | assumption | exact And.left (by assumption))).mono ?_; rintro e w2 ⟨rfl, hb2⟩))
   go_wp2
   go_roundw
   case rel => exact ⟨m + 1, by omega, by go_num, below_on hB.out (by first | assumption | exact And.left (by assumption))⟩
   case measure => simp [intOf]; omega
  ·go_wp2
   go_ret
   exact ⟨rfl, hB.out⟩
theorem eqLineS_calls (u v : Value) (xs : List LineL) (w : World) (lo1 hi1 lo2 hi2 : Nat) (h1 : hi1 ≤ w.heap.size) (h2 : hi2 ≤ w.heap.size) (hu : ListAt LineR 2 true lo1 hi1 w u xs) (hv : ListAt LineR 2 true lo2 hi2 w v xs) (hn : xs.length ≤ 1048576) (hel : ∀ x ∈ xs, ElemEq 166 2 LineR x) :
  Calls Tryz.prog 128 #[u, v] w fun e w' => e = .returned (.bool true) ∧ Below w.heap.size w w' := by
 obtain ⟨a, c, rfl⟩ := hu.form
 obtain ⟨a2, c2, rfl⟩ := hv.form
 have helH : Hid (∀ x ∈ xs, ElemEq 166 2 LineR x) := hel
 have huH : Hid (∀ wr, Below w.heap.size w wr → ListAt LineR 2 true lo1 hi1 wr (.slice a xs.length c) xs) := fun wr hw => hu.kept LineR.stable (Nat.le_refl _) (Nat.le_refl _) ((Same.below hw).mono (Nat.zero_le _) h1)
 have hvH : Hid (∀ wr, Below w.heap.size w wr → ListAt LineR 2 true lo2 hi2 wr (.slice a2 xs.length c2) xs) := fun wr hw => hv.kept LineR.stable (Nat.le_refl _) (Nat.le_refl _) ((Same.below hw).mono (Nat.zero_le _) h2)
 have hhH : Hid (hi1 ≤ w.heap.size ∧ hi2 ≤ w.heap.size) := ⟨h1, h2⟩
 clear hu hv hel h1 h2
 go_enter Tryz.func128, Tryz.ntmps128
 go_wp2
 go_loopw [5] (fun i wr => ∃ m : Nat, m ≤ xs.length ∧ i = .int .i64 m ∧ Hid (Below w.heap.size w wr)) (fun i _ => xs.length - (intOf i).toNat)
 case atStart => exact ⟨0, Nat.zero_le _, rfl, Below.refl _ _⟩
 case round =>
  obtain ⟨m, hm, rfl, hB⟩ := hrel
  by_cases hlt : m < xs.length
  ·obtain ⟨b, off, r1, rfl, hb1, hl1, hr1, hx1⟩ := (huH.out wr hB.out).at m hlt
   obtain ⟨b', off', r2, rfl, hb2, hl2, hr2, hx2⟩ := (hvH.out wr hB.out).at m hlt
   have hlt' : (m : Int) < (xs.length : Int) := by omega
   have hsz := hB.out.size
   have hcH : Hid (∀ W, Below wr.heap.size wr W → Calls Tryz.prog 166 #[.agg r1.toArray, .agg r2.toArray] W fun e w' => e = .returned (.bool true) ∧ Below W.heap.size W w') := fun W hW =>
    helH.out xs[m] (List.getElem_mem hlt) W r1 r2 lo1 hi1 lo2 hi2 (by have := hW.size; have := hhH.out.1; omega) (by have := hW.size; have := hhH.out.2; omega)
     (LineR.stable _ _ _ _ _ _ _ _ _ hx1 (Nat.le_refl _) (Nat.le_refl _) ((Same.below hW).mono (Nat.zero_le _) (by have := hhH.out.1; omega)))
     (LineR.stable _ _ _ _ _ _ _ _ _ hx2 (Nat.le_refl _) (Nat.le_refl _) ((Same.below hW).mono (Nat.zero_le _) (by have := hhH.out.2; omega))) hl1 hl2
   obtain ⟨x, hx⟩ : ∃ x, x = xs[m] := ⟨_, rfl⟩
   rw [← hx] at hx1 hx2
   obtain rfl : r1 = [.int .i64 x.at', .int .i64 x.n] := hx1
   obtain rfl : r2 = [.int .i64 x.at', .int .i64 x.n] := hx2
   have hmk : Hid (∀ W, Below wr.heap.size wr W → (Below wr.heap.size wr W ∧ W.cell? ⟨b, off + m * 2, none⟩ = some (.int .i64 x.at') ∧ W.cell? ⟨b, off + m * 2 + 1, none⟩ = some (.int .i64 x.n) ∧ W.cell? ⟨b', off' + m * 2, none⟩ = some (.int .i64 x.at') ∧ W.cell? ⟨b', off' + m * 2 + 1, none⟩ = some (.int .i64 x.n))) := fun W hW => by
    have kp1 := rangeAt_same (Same.below hW) (Nat.zero_le _) (show b < wr.heap.size by have := hhH.out.1; omega) hr1
    have kp2 := rangeAt_same (Same.below hW) (Nat.zero_le _) (show b' < wr.heap.size by have := hhH.out.2; omega) hr2
    exact ⟨hW, kp1 0 _ rfl, kp1 1 _ rfl, kp2 0 _ rfl, kp2 1 _ rfl⟩
   clear hr1 hr2 hl1 hl2 hsz hb1 hb2 hx
   have hS0 := hmk.out wr (Below.refl _ _)
   go_wp2
   go_region_held3 (fun W => Below wr.heap.size wr W ∧ W.cell? ⟨b, off + m * 2, none⟩ = some (.int .i64 x.at') ∧ W.cell? ⟨b, off + m * 2 + 1, none⟩ = some (.int .i64 x.n) ∧ W.cell? ⟨b', off' + m * 2, none⟩ = some (.int .i64 x.at') ∧ W.cell? ⟨b', off' + m * 2 + 1, none⟩ = some (.int .i64 x.n)) (first | assumption | exact hmk.out _ (Below.drew (And.left (by assumption))) | exact hmk.out _ (below_on (And.left (by assumption)) (by assumption))) (first | (go_at_call 166; refine (hcH.out _ (by first | exact Below.refl _ _ | assumption | exact And.left (by assumption))).mono ?_; rintro e w2 ⟨rfl, hb2⟩))
   go_wp2
   go_roundw
   case rel => exact ⟨m + 1, by omega, by go_num, below_on hB.out (by first | assumption | exact And.left (by assumption))⟩
   case measure => simp [intOf]; omega
  ·go_wp2
   go_ret
   exact ⟨rfl, hB.out⟩
theorem eqMeth_calls (x : MethL) (hy : x.small) : ElemEq 87 9 MethR x := by
 intro w r1 r2 lo1 hi1 lo2 hi2 h1 h2 hx1 hx2 hl1 hl2
 obtain ⟨v1_5, v1_6, v1_7, v1_8, rfl, g1_5, g1_6, g1_7, g1_8⟩ := hx1
 obtain ⟨v2_5, v2_6, v2_7, v2_8, rfl, g2_5, g2_6, g2_7, g2_8⟩ := hx2
 have c5 : Hid (∀ W, Below w.heap.size w W → Calls Tryz.prog 125 #[v1_5, v2_5] W fun e w' => e = .returned (.bool true) ∧ Below W.heap.size W w') := fun W hW =>
  eqInsS_calls v1_5 v2_5 x.code W lo1 hi1 lo2 hi2 (Nat.le_trans h1 hW.size) (Nat.le_trans h2 hW.size) (g1_5.kept InsR.stable (Nat.le_refl _) (Nat.le_refl _) ((Same.below hW).mono (Nat.zero_le _) h1)) (g2_5.kept InsR.stable (Nat.le_refl _) (Nat.le_refl _) ((Same.below hW).mono (Nat.zero_le _) h2)) hy.2.2.1.1 (fun y hy1 => eqInsL_calls y (hy.2.2.1.2 y hy1))
 have c6 : Hid (∀ W, Below w.heap.size w W → Calls Tryz.prog 126 #[v1_6, v2_6] W fun e w' => e = .returned (.bool true) ∧ Below W.heap.size W w') := fun W hW =>
  eqHandS_calls v1_6 v2_6 x.hands W lo1 hi1 lo2 hi2 (Nat.le_trans h1 hW.size) (Nat.le_trans h2 hW.size) (g1_6.kept HandR.stable (Nat.le_refl _) (Nat.le_refl _) ((Same.below hW).mono (Nat.zero_le _) h1)) (g2_6.kept HandR.stable (Nat.le_refl _) (Nat.le_refl _) ((Same.below hW).mono (Nat.zero_le _) h2)) hy.2.2.2.1.1 (fun y hy1 => eqHand_calls y)
 have c7 : Hid (∀ W, Below w.heap.size w W → Calls Tryz.prog 127 #[v1_7, v2_7] W fun e w' => e = .returned (.bool true) ∧ Below W.heap.size W w') := fun W hW =>
  eqFrameS_calls v1_7 v2_7 x.frames W lo1 hi1 lo2 hi2 (Nat.le_trans h1 hW.size) (Nat.le_trans h2 hW.size) (g1_7.kept FrameR.stable (Nat.le_refl _) (Nat.le_refl _) ((Same.below hW).mono (Nat.zero_le _) h1)) (g2_7.kept FrameR.stable (Nat.le_refl _) (Nat.le_refl _) ((Same.below hW).mono (Nat.zero_le _) h2)) hy.2.2.2.2.1.1 (fun y hy1 => eqFrame_calls y (hy.2.2.2.2.1.2 y hy1))
 have c8 : Hid (∀ W, Below w.heap.size w W → Calls Tryz.prog 128 #[v1_8, v2_8] W fun e w' => e = .returned (.bool true) ∧ Below W.heap.size W w') := fun W hW =>
  eqLineS_calls v1_8 v2_8 x.lines W lo1 hi1 lo2 hi2 (Nat.le_trans h1 hW.size) (Nat.le_trans h2 hW.size) (g1_8.kept LineR.stable (Nat.le_refl _) (Nat.le_refl _) ((Same.below hW).mono (Nat.zero_le _) h1)) (g2_8.kept LineR.stable (Nat.le_refl _) (Nat.le_refl _) ((Same.below hW).mono (Nat.zero_le _) h2)) hy.2.2.2.2.2 (fun y hy1 => eqLine_calls y)
 obtain ⟨a1_5, k1_5, rfl⟩ := g1_5.form
 obtain ⟨a2_5, k2_5, rfl⟩ := g2_5.form
 obtain ⟨a1_6, k1_6, rfl⟩ := g1_6.form
 obtain ⟨a2_6, k2_6, rfl⟩ := g2_6.form
 obtain ⟨a1_7, k1_7, rfl⟩ := g1_7.form
 obtain ⟨a2_7, k2_7, rfl⟩ := g2_7.form
 obtain ⟨a1_8, k1_8, rfl⟩ := g1_8.form
 obtain ⟨a2_8, k2_8, rfl⟩ := g2_8.form
 have b0 : (x.name.toList != x.name.toList) = false := by simp
 have b1 : (x.sig.toList != x.sig.toList) = false := by simp
 have b2 : (x.flags != x.flags) = false := by simp
 have b3 : (x.stack != x.stack) = false := by simp
 have b4 : (x.locals != x.locals) = false := by simp
 clear hl1 hl2 h1 h2 g1_5 g2_5 g1_6 g2_6 g1_7 g2_7 g1_8 g2_8
 go_enter Tryz.func87, Tryz.ntmps87
 go_wp2_with fail
 obtain ⟨W0, hW0⟩ : ∃ W : World, W = (w.alloc (.cells #[.string x.name, .string x.sig, .int .i64 x.flags, .int .i64 x.stack, .int .i64 x.locals, .slice a1_5 x.code.length k1_5, .slice a1_6 x.hands.length k1_6, .slice a1_7 x.frames.length k1_7, .slice a1_8 x.lines.length k1_8] 91)).alloc (.cells #[.string x.name, .string x.sig, .int .i64 x.flags, .int .i64 x.stack, .int .i64 x.locals, .slice a2_5 x.code.length k2_5, .slice a2_6 x.hands.length k2_6, .slice a2_7 x.frames.length k2_7, .slice a2_8 x.lines.length k2_8] 91) := ⟨_, rfl⟩
 rw [← hW0]
 have r0 : Hid (Rec2 w W0 [.string x.name, .string x.sig, .int .i64 x.flags, .int .i64 x.stack, .int .i64 x.locals, .slice a1_5 x.code.length k1_5, .slice a1_6 x.hands.length k1_6, .slice a1_7 x.frames.length k1_7, .slice a1_8 x.lines.length k1_8] [.string x.name, .string x.sig, .int .i64 x.flags, .int .i64 x.stack, .int .i64 x.locals, .slice a2_5 x.code.length k2_5, .slice a2_6 x.hands.length k2_6, .slice a2_7 x.frames.length k2_7, .slice a2_8 x.lines.length k2_8]) := Rec2.start hW0
 clear hW0
 refine (c5.out W0 r0.out.hb).mono ?_
 rintro e w1 ⟨rfl, hb1⟩
 have r1 : Hid (Rec2 w w1 [.string x.name, .string x.sig, .int .i64 x.flags, .int .i64 x.stack, .int .i64 x.locals, .slice a1_5 x.code.length k1_5, .slice a1_6 x.hands.length k1_6, .slice a1_7 x.frames.length k1_7, .slice a1_8 x.lines.length k1_8] [.string x.name, .string x.sig, .int .i64 x.flags, .int .i64 x.stack, .int .i64 x.locals, .slice a2_5 x.code.length k2_5, .slice a2_6 x.hands.length k2_6, .slice a2_7 x.frames.length k2_7, .slice a2_8 x.lines.length k2_8]) := r0.out.call hb1
 have y1_6 := r1.out.cell1 6 _ rfl
 have z1_6 := r1.out.cell2 6 _ rfl
 have y1_7 := r1.out.cell1 7 _ rfl
 have z1_7 := r1.out.cell2 7 _ rfl
 have y1_8 := r1.out.cell1 8 _ rfl
 have z1_8 := r1.out.cell2 8 _ rfl
 clear hb1
 go_wp2_with fail
 clear y1_6 z1_6
 clear y1_7 z1_7
 clear y1_8 z1_8
 refine (c6.out w1 r1.out.hb).mono ?_
 rintro e w2 ⟨rfl, hb2⟩
 have r2 : Hid (Rec2 w w2 [.string x.name, .string x.sig, .int .i64 x.flags, .int .i64 x.stack, .int .i64 x.locals, .slice a1_5 x.code.length k1_5, .slice a1_6 x.hands.length k1_6, .slice a1_7 x.frames.length k1_7, .slice a1_8 x.lines.length k1_8] [.string x.name, .string x.sig, .int .i64 x.flags, .int .i64 x.stack, .int .i64 x.locals, .slice a2_5 x.code.length k2_5, .slice a2_6 x.hands.length k2_6, .slice a2_7 x.frames.length k2_7, .slice a2_8 x.lines.length k2_8]) := r1.out.call hb2
 have y2_7 := r2.out.cell1 7 _ rfl
 have z2_7 := r2.out.cell2 7 _ rfl
 have y2_8 := r2.out.cell1 8 _ rfl
 have z2_8 := r2.out.cell2 8 _ rfl
 clear hb2
 go_wp2_with fail
 clear y2_7 z2_7
 clear y2_8 z2_8
 refine (c7.out w2 r2.out.hb).mono ?_
 rintro e w3 ⟨rfl, hb3⟩
 have r3 : Hid (Rec2 w w3 [.string x.name, .string x.sig, .int .i64 x.flags, .int .i64 x.stack, .int .i64 x.locals, .slice a1_5 x.code.length k1_5, .slice a1_6 x.hands.length k1_6, .slice a1_7 x.frames.length k1_7, .slice a1_8 x.lines.length k1_8] [.string x.name, .string x.sig, .int .i64 x.flags, .int .i64 x.stack, .int .i64 x.locals, .slice a2_5 x.code.length k2_5, .slice a2_6 x.hands.length k2_6, .slice a2_7 x.frames.length k2_7, .slice a2_8 x.lines.length k2_8]) := r2.out.call hb3
 have y3_8 := r3.out.cell1 8 _ rfl
 have z3_8 := r3.out.cell2 8 _ rfl
 clear hb3
 go_wp2_with fail
 clear y3_8 z3_8
 refine (c8.out w3 r3.out.hb).mono ?_
 rintro e w4 ⟨rfl, hb4⟩
 have r4 : Hid (Rec2 w w4 [.string x.name, .string x.sig, .int .i64 x.flags, .int .i64 x.stack, .int .i64 x.locals, .slice a1_5 x.code.length k1_5, .slice a1_6 x.hands.length k1_6, .slice a1_7 x.frames.length k1_7, .slice a1_8 x.lines.length k1_8] [.string x.name, .string x.sig, .int .i64 x.flags, .int .i64 x.stack, .int .i64 x.locals, .slice a2_5 x.code.length k2_5, .slice a2_6 x.hands.length k2_6, .slice a2_7 x.frames.length k2_7, .slice a2_8 x.lines.length k2_8]) := r3.out.call hb4
 clear hb4
 go_wp2
 go_ret
 exact ⟨rfl, r4.out.hb⟩
def SzQ (l : Int) (n : Nat) (e : Ending) : Prop := ∃ r, e = .returned (.int .i64 r) ∧ (l < n → r = -1) ∧ (n ≤ l → r = l - n)
theorem SzQ.neg {l : Int} {n : Nat} (h : l < n) : SzQ l n (.returned (.int .i64 (-1))) := ⟨_, rfl, fun _ => rfl, fun h' => by omega⟩
theorem SzQ.pos {l : Int} {n : Nat} {r : Int} (h : n ≤ l) (hr : r = l - n) : SzQ l n (.returned (.int .i64 r)) := ⟨_, rfl, fun h' => by omega, fun _ => hr⟩
theorem below_1 (w : World) (a : Obj) : Below w.heap.size w (w.alloc a) := (Below.refl _ _).alloc (Nat.le_refl _) _
def sumL {α : Type} (f : α → Nat) (xs : List α) : Nat := xs.length + (xs.map f).sum
def InsL.sz (x : InsL) : Nat := x.T.size + x.C.size + x.N.size + x.Y.size + x.zs.length
def HandL.sz (x : HandL) : Nat := x.ty.size
def FrameL.sz (x : FrameL) : Nat := sumL ByteArray.size x.locs + sumL ByteArray.size x.stk
def MethL.sz (x : MethL) : Nat := x.name.size + x.sig.size + sumL InsL.sz x.code + sumL HandL.sz x.hands + sumL FrameL.sz x.frames + x.lines.length
def InsL.upto (x : InsL) : Prop := x.T.size ≤ 9223372036854775807 ∧ x.C.size ≤ 9223372036854775807 ∧ x.N.size ≤ 9223372036854775807 ∧ x.Y.size ≤ 9223372036854775807 ∧ x.zs.length ≤ 9223372036854775807
def HandL.upto (x : HandL) : Prop := x.ty.size ≤ 9223372036854775807
def FrameL.upto (x : FrameL) : Prop := x.locs.length ≤ 9223372036854775807 ∧ x.stk.length ≤ 9223372036854775807 ∧ (∀ s ∈ x.locs, s.size ≤ 9223372036854775807) ∧ (∀ s ∈ x.stk, s.size ≤ 9223372036854775807)
def MethL.upto (x : MethL) : Prop := x.name.size ≤ 9223372036854775807 ∧ x.sig.size ≤ 9223372036854775807 ∧ (x.code.length ≤ 9223372036854775807 ∧ ∀ y ∈ x.code, y.upto) ∧ (x.hands.length ≤ 9223372036854775807 ∧ ∀ y ∈ x.hands, y.upto) ∧ (x.frames.length ≤ 9223372036854775807 ∧ ∀ y ∈ x.frames, y.upto) ∧ x.lines.length ≤ 9223372036854775807
theorem sum_take {α : Type} (f : α → Nat) : ∀ (xs : List α) (m : Nat) (h : m < xs.length), ((xs.take (m + 1)).map f).sum = ((xs.take m).map f).sum + f xs[m]
 | [], _, h => by simp at h
 | x :: r, 0, _ => by simp
 | x :: r, m + 1, h => by
  have := sum_take f r m (by simpa using h)
  simp only [List.take_succ_cons, List.map_cons, List.sum_cons, List.getElem_cons_succ]
  omega
theorem sum_take_le {α : Type} (f : α → Nat) : ∀ (xs : List α) (m : Nat), ((xs.take m).map f).sum ≤ (xs.map f).sum
 | [], _ => by simp
 | x :: r, 0 => by simp
 | x :: r, m + 1 => by
  have := sum_take_le f r m
  simp only [List.take_succ_cons, List.map_cons, List.sum_cons]
  omega
theorem sum_mem_le {α : Type} (f : α → Nat) : ∀ (xs : List α) (x : α), x ∈ xs → f x ≤ (xs.map f).sum
 | y :: r, x, h => by
  simp only [List.map_cons, List.sum_cons]
  rcases List.mem_cons.1 h with rfl | h
  ·omega
  ·have := sum_mem_le f r x h; omega
def ElemSz {α : Type} (f k : Nat) (R : Rd α) (sz : α → Nat) (x : α) : Prop := ∀ (W : World) (row : List Value) (own : Bool) (lo hi : Nat) (l : Int), hi ≤ W.heap.size → R own lo hi W row x → row.length = k → 0 ≤ l → l ≤ 1048576 → Calls Tryz.prog f #[.agg row.toArray, .int .i64 l] W fun e w' => SzQ l (sz x) e ∧ Below W.heap.size W w'
theorem below_on2 {w W w' : World} (h : Below w.heap.size w W) (h2 : Below W.heap.size W w') : Below w.heap.size w w' := h.trans (h2.mono h.size)
theorem szInsS_calls (v : Value) (xs : List InsL) (w : World) (own : Bool) (lo hi : Nat) (l : Int) (hh : hi ≤ w.heap.size) (ht : ListAt InsR 9 own lo hi w v xs) (hn : xs.length ≤ 9223372036854775807) (hl0 : 0 ≤ l) (hl1 : l ≤ 1048576) (hel : ∀ x ∈ xs, ElemSz 134 9 InsR InsL.sz x) :
  Calls Tryz.prog 99 #[v, .int .i64 l] w fun e w' => SzQ l (sumL InsL.sz xs) e ∧ Below w.heap.size w w' := by
 have hldH : Hid ((Tryz.prog.info? 157).map (·.size) = some 9) := by show (Tryz.prog.info? 157).map (·.size) = some 9; kernel_rfl
 obtain ⟨a, c, rfl⟩ := ht.form
 have helH : Hid (∀ x ∈ xs, ElemSz 134 9 InsR InsL.sz x) := hel
 have htH : Hid (∀ wr, Below w.heap.size w wr → ListAt InsR 9 own lo hi wr (.slice a xs.length c) xs) := fun wr hw => ht.kept InsR.stable (Nat.le_refl _) (Nat.le_refl _) ((Same.below hw).mono (Nat.zero_le _) hh)
 have hhH : Hid (hi ≤ w.heap.size) := hh
 clear ht hel hh
 by_cases hc : l < xs.length
 ·go_enter Tryz.func99, Tryz.ntmps99
  go_wp2
  go_ret
  exact ⟨SzQ.neg (by unfold sumL; omega), Below.refl _ _⟩
 go_enter Tryz.func99, Tryz.ntmps99
 go_wp2
 go_loopw [1, 5] (fun q i wr => ∃ (m : Nat) (z : Int), m ≤ xs.length ∧ q = .int .i64 z ∧ 0 ≤ z ∧ z ≤ 1048576 ∧ Hid (z = l - (xs.length + ((xs.take m).map InsL.sz).sum : Nat)) ∧ i = .int .i64 m ∧ Hid (Below w.heap.size w wr)) (fun _ i _ => xs.length - (intOf i).toNat)
 case atStart => exact ⟨0, _, Nat.zero_le _, rfl, by omega, by omega, by simp [Hid], rfl, Below.refl _ _⟩
 case round =>
  obtain ⟨m, z, hm, rfl, hz0, hz1, hz, rfl, hB⟩ := hrel
  by_cases hlt : m < xs.length
  ·obtain ⟨b, off, row, rfl, hbb, hrl, hrr, hrx⟩ := (htH.out wr hB.out).at m hlt
   have hlt' : (m : Int) < (xs.length : Int) := by omega
   have hcallH : Hid (Calls Tryz.prog 134 #[.agg row.toArray, .int .i64 z] wr fun e w' => SzQ z (InsL.sz xs[m]) e ∧ Below wr.heap.size wr w') := helH.out xs[m] (List.getElem_mem hlt) wr row own lo hi z (Nat.le_trans hhH.out hB.out.size) hrx hrl hz0 hz1
   have hrrH : Hid (wr.rangeAt b (off + m * 9) row) := hrr
   have hrlH : Hid (row.length = 9) := hrl
   have hst : Hid (((xs.take (m + 1)).map InsL.sz).sum = ((xs.take m).map InsL.sz).sum + InsL.sz xs[m]) := sum_take InsL.sz xs m hlt
   have hle : Hid (((xs.take (m + 1)).map InsL.sz).sum ≤ (xs.map InsL.sz).sum) := sum_take_le InsL.sz xs (m + 1)
   obtain ⟨n, hnn⟩ : ∃ n, n = InsL.sz xs[m] := ⟨_, rfl⟩
   rw [← hnn] at hcallH hst
   clear hrr hrl hrx hnn
   by_cases hcc : z < n
   ·go_wp2_with (first
     | (refine wpList_load_mid rfl 157 _ rfl b (off + m * 9) (by first | rfl | (simp; done)) row _ hrrH.out Tryz.underlying157 rfl (by rw [hrlH.out]; exact hldH.out) ?_)
     | (go_at_call 134; refine hcallH.out.mono ?_; rintro e w2 ⟨⟨r, rfl, hr1, hr2⟩, hb2⟩; obtain rfl := hr1 hcc))
    go_ret
    have := hz.out; have := hst.out; have := hle.out
    exact ⟨SzQ.neg (by unfold sumL; omega), below_on2 hB.out hb2⟩
   ·go_wp2_with (first
     | (refine wpList_load_mid rfl 157 _ rfl b (off + m * 9) (by first | rfl | (simp; done)) row _ hrrH.out Tryz.underlying157 rfl (by rw [hrlH.out]; exact hldH.out) ?_)
     | (go_at_call 134; refine hcallH.out.mono ?_; rintro e w2 ⟨⟨r, rfl, hr1, hr2⟩, hb2⟩; obtain rfl := hr2 (by omega)))
    go_roundw
    case rel =>
     have := hz.out; have := hst.out
     exact ⟨m + 1, _, by omega, rfl, by omega, by omega, (show _ = _ by omega), by go_num, below_on2 hB.out hb2⟩
    case measure => simp [intOf]; omega
  ·go_wp2
   go_ret
   have h := hz.out
   rw [List.take_of_length_le (by omega)] at h
   exact ⟨SzQ.pos (by unfold sumL; omega) (by unfold sumL; omega), hB.out⟩
theorem szHandS_calls (v : Value) (xs : List HandL) (w : World) (own : Bool) (lo hi : Nat) (l : Int) (hh : hi ≤ w.heap.size) (ht : ListAt HandR 4 own lo hi w v xs) (hn : xs.length ≤ 9223372036854775807) (hl0 : 0 ≤ l) (hl1 : l ≤ 1048576) (hel : ∀ x ∈ xs, ElemSz 135 4 HandR HandL.sz x) :
  Calls Tryz.prog 100 #[v, .int .i64 l] w fun e w' => SzQ l (sumL HandL.sz xs) e ∧ Below w.heap.size w w' := by
 have hldH : Hid ((Tryz.prog.info? 159).map (·.size) = some 4) := by show (Tryz.prog.info? 159).map (·.size) = some 4; kernel_rfl
 obtain ⟨a, c, rfl⟩ := ht.form
 have helH : Hid (∀ x ∈ xs, ElemSz 135 4 HandR HandL.sz x) := hel
 have htH : Hid (∀ wr, Below w.heap.size w wr → ListAt HandR 4 own lo hi wr (.slice a xs.length c) xs) := fun wr hw => ht.kept HandR.stable (Nat.le_refl _) (Nat.le_refl _) ((Same.below hw).mono (Nat.zero_le _) hh)
 have hhH : Hid (hi ≤ w.heap.size) := hh
 clear ht hel hh
 by_cases hc : l < xs.length
 ·go_enter Tryz.func100, Tryz.ntmps100
  go_wp2
  go_ret
  exact ⟨SzQ.neg (by unfold sumL; omega), Below.refl _ _⟩
 go_enter Tryz.func100, Tryz.ntmps100
 go_wp2
 go_loopw [1, 5] (fun q i wr => ∃ (m : Nat) (z : Int), m ≤ xs.length ∧ q = .int .i64 z ∧ 0 ≤ z ∧ z ≤ 1048576 ∧ Hid (z = l - (xs.length + ((xs.take m).map HandL.sz).sum : Nat)) ∧ i = .int .i64 m ∧ Hid (Below w.heap.size w wr)) (fun _ i _ => xs.length - (intOf i).toNat)
 case atStart => exact ⟨0, _, Nat.zero_le _, rfl, by omega, by omega, by simp [Hid], rfl, Below.refl _ _⟩
 case round =>
  obtain ⟨m, z, hm, rfl, hz0, hz1, hz, rfl, hB⟩ := hrel
  by_cases hlt : m < xs.length
  ·obtain ⟨b, off, row, rfl, hbb, hrl, hrr, hrx⟩ := (htH.out wr hB.out).at m hlt
   have hlt' : (m : Int) < (xs.length : Int) := by omega
   have hcallH : Hid (Calls Tryz.prog 135 #[.agg row.toArray, .int .i64 z] wr fun e w' => SzQ z (HandL.sz xs[m]) e ∧ Below wr.heap.size wr w') := helH.out xs[m] (List.getElem_mem hlt) wr row own lo hi z (Nat.le_trans hhH.out hB.out.size) hrx hrl hz0 hz1
   have hrrH : Hid (wr.rangeAt b (off + m * 4) row) := hrr
   have hrlH : Hid (row.length = 4) := hrl
   have hst : Hid (((xs.take (m + 1)).map HandL.sz).sum = ((xs.take m).map HandL.sz).sum + HandL.sz xs[m]) := sum_take HandL.sz xs m hlt
   have hle : Hid (((xs.take (m + 1)).map HandL.sz).sum ≤ (xs.map HandL.sz).sum) := sum_take_le HandL.sz xs (m + 1)
   obtain ⟨n, hnn⟩ : ∃ n, n = HandL.sz xs[m] := ⟨_, rfl⟩
   rw [← hnn] at hcallH hst
   clear hrr hrl hrx hnn
   by_cases hcc : z < n
   ·go_wp2_with (first
     | (refine wpList_load_mid rfl 159 _ rfl b (off + m * 4) (by first | rfl | (simp; done)) row _ hrrH.out Tryz.underlying159 rfl (by rw [hrlH.out]; exact hldH.out) ?_)
     | (go_at_call 135; refine hcallH.out.mono ?_; rintro e w2 ⟨⟨r, rfl, hr1, hr2⟩, hb2⟩; obtain rfl := hr1 hcc))
    go_ret
    have := hz.out; have := hst.out; have := hle.out
    exact ⟨SzQ.neg (by unfold sumL; omega), below_on2 hB.out hb2⟩
   ·go_wp2_with (first
     | (refine wpList_load_mid rfl 159 _ rfl b (off + m * 4) (by first | rfl | (simp; done)) row _ hrrH.out Tryz.underlying159 rfl (by rw [hrlH.out]; exact hldH.out) ?_)
     | (go_at_call 135; refine hcallH.out.mono ?_; rintro e w2 ⟨⟨r, rfl, hr1, hr2⟩, hb2⟩; obtain rfl := hr2 (by omega)))
    go_roundw
    case rel =>
     have := hz.out; have := hst.out
     exact ⟨m + 1, _, by omega, rfl, by omega, by omega, (show _ = _ by omega), by go_num, below_on2 hB.out hb2⟩
    case measure => simp [intOf]; omega
  ·go_wp2
   go_ret
   have h := hz.out
   rw [List.take_of_length_le (by omega)] at h
   exact ⟨SzQ.pos (by unfold sumL; omega) (by unfold sumL; omega), hB.out⟩
theorem szFrameS_calls (v : Value) (xs : List FrameL) (w : World) (own : Bool) (lo hi : Nat) (l : Int) (hh : hi ≤ w.heap.size) (ht : ListAt FrameR 3 own lo hi w v xs) (hn : xs.length ≤ 9223372036854775807) (hl0 : 0 ≤ l) (hl1 : l ≤ 1048576) (hel : ∀ x ∈ xs, ElemSz 136 3 FrameR FrameL.sz x) :
  Calls Tryz.prog 101 #[v, .int .i64 l] w fun e w' => SzQ l (sumL FrameL.sz xs) e ∧ Below w.heap.size w w' := by
 have hldH : Hid ((Tryz.prog.info? 161).map (·.size) = some 3) := by show (Tryz.prog.info? 161).map (·.size) = some 3; kernel_rfl
 obtain ⟨a, c, rfl⟩ := ht.form
 have helH : Hid (∀ x ∈ xs, ElemSz 136 3 FrameR FrameL.sz x) := hel
 have htH : Hid (∀ wr, Below w.heap.size w wr → ListAt FrameR 3 own lo hi wr (.slice a xs.length c) xs) := fun wr hw => ht.kept FrameR.stable (Nat.le_refl _) (Nat.le_refl _) ((Same.below hw).mono (Nat.zero_le _) hh)
 have hhH : Hid (hi ≤ w.heap.size) := hh
 clear ht hel hh
 by_cases hc : l < xs.length
 ·go_enter Tryz.func101, Tryz.ntmps101
  go_wp2
  go_ret
  exact ⟨SzQ.neg (by unfold sumL; omega), Below.refl _ _⟩
 go_enter Tryz.func101, Tryz.ntmps101
 go_wp2
 go_loopw [1, 5] (fun q i wr => ∃ (m : Nat) (z : Int), m ≤ xs.length ∧ q = .int .i64 z ∧ 0 ≤ z ∧ z ≤ 1048576 ∧ Hid (z = l - (xs.length + ((xs.take m).map FrameL.sz).sum : Nat)) ∧ i = .int .i64 m ∧ Hid (Below w.heap.size w wr)) (fun _ i _ => xs.length - (intOf i).toNat)
 case atStart => exact ⟨0, _, Nat.zero_le _, rfl, by omega, by omega, by simp [Hid], rfl, Below.refl _ _⟩
 case round =>
  obtain ⟨m, z, hm, rfl, hz0, hz1, hz, rfl, hB⟩ := hrel
  by_cases hlt : m < xs.length
  ·obtain ⟨b, off, row, rfl, hbb, hrl, hrr, hrx⟩ := (htH.out wr hB.out).at m hlt
   have hlt' : (m : Int) < (xs.length : Int) := by omega
   have hcallH : Hid (Calls Tryz.prog 136 #[.agg row.toArray, .int .i64 z] wr fun e w' => SzQ z (FrameL.sz xs[m]) e ∧ Below wr.heap.size wr w') := helH.out xs[m] (List.getElem_mem hlt) wr row own lo hi z (Nat.le_trans hhH.out hB.out.size) hrx hrl hz0 hz1
   have hrrH : Hid (wr.rangeAt b (off + m * 3) row) := hrr
   have hrlH : Hid (row.length = 3) := hrl
   have hst : Hid (((xs.take (m + 1)).map FrameL.sz).sum = ((xs.take m).map FrameL.sz).sum + FrameL.sz xs[m]) := sum_take FrameL.sz xs m hlt
   have hle : Hid (((xs.take (m + 1)).map FrameL.sz).sum ≤ (xs.map FrameL.sz).sum) := sum_take_le FrameL.sz xs (m + 1)
   obtain ⟨n, hnn⟩ : ∃ n, n = FrameL.sz xs[m] := ⟨_, rfl⟩
   rw [← hnn] at hcallH hst
   clear hrr hrl hrx hnn
   by_cases hcc : z < n
   ·go_wp2_with (first
     | (refine wpList_load_mid rfl 161 _ rfl b (off + m * 3) (by first | rfl | (simp; done)) row _ hrrH.out Tryz.underlying161 rfl (by rw [hrlH.out]; exact hldH.out) ?_)
     | (go_at_call 136; refine hcallH.out.mono ?_; rintro e w2 ⟨⟨r, rfl, hr1, hr2⟩, hb2⟩; obtain rfl := hr1 hcc))
    go_ret
    have := hz.out; have := hst.out; have := hle.out
    exact ⟨SzQ.neg (by unfold sumL; omega), below_on2 hB.out hb2⟩
   ·go_wp2_with (first
     | (refine wpList_load_mid rfl 161 _ rfl b (off + m * 3) (by first | rfl | (simp; done)) row _ hrrH.out Tryz.underlying161 rfl (by rw [hrlH.out]; exact hldH.out) ?_)
     | (go_at_call 136; refine hcallH.out.mono ?_; rintro e w2 ⟨⟨r, rfl, hr1, hr2⟩, hb2⟩; obtain rfl := hr2 (by omega)))
    go_roundw
    case rel =>
     have := hz.out; have := hst.out
     exact ⟨m + 1, _, by omega, rfl, by omega, by omega, (show _ = _ by omega), by go_num, below_on2 hB.out hb2⟩
    case measure => simp [intOf]; omega
  ·go_wp2
   go_ret
   have h := hz.out
   rw [List.take_of_length_le (by omega)] at h
   exact ⟨SzQ.pos (by unfold sumL; omega) (by unfold sumL; omega), hB.out⟩
theorem szStrs_calls (v : Value) (xs : List ByteArray) (w : World) (own : Bool) (lo hi : Nat) (l : Int) (ht : ListAt StrR 1 own lo hi w v xs) (hn : xs.length ≤ 9223372036854775807) (hs : ∀ s ∈ xs, s.size ≤ 9223372036854775807) (hl0 : 0 ≤ l) (hl1 : l ≤ 1048576) :
  Calls Tryz.prog 40 #[v, .int .i64 l] w fun e w' => SzQ l (sumL ByteArray.size xs) e ∧ w' = w := by
 obtain ⟨a, c, rfl⟩ := ht.form
 have htH : Hid (ListAt StrR 1 own lo hi w (.slice a xs.length c) xs) := ht
 have hsH : Hid (∀ s ∈ xs, s.size ≤ 9223372036854775807) := hs
 clear ht hs
 by_cases hc : l < xs.length
 ·go_enter Tryz.func40, Tryz.ntmps40
  go_wp2
  go_ret
  exact ⟨SzQ.neg (by unfold sumL; omega), rfl⟩
 go_enter Tryz.func40, Tryz.ntmps40
 go_wp2
 go_loopw [1, 5] (fun q i wr => ∃ (m : Nat) (z : Int), m ≤ xs.length ∧ q = .int .i64 z ∧ 0 ≤ z ∧ z ≤ 1048576 ∧ Hid (z = l - (xs.length + ((xs.take m).map ByteArray.size).sum : Nat)) ∧ i = .int .i64 m ∧ wr = w) (fun _ i _ => xs.length - (intOf i).toNat)
 case atStart => exact ⟨0, _, Nat.zero_le _, rfl, by omega, by omega, by simp [Hid], rfl, rfl⟩
 case round =>
  obtain ⟨m, z, hm, rfl, hz0, hz1, hz, rfl, rfl⟩ := hrel
  by_cases hlt : m < xs.length
  ·obtain ⟨b, off, row, rfl, hbb, hrl, hrr, hrx⟩ := htH.out.at m hlt
   have hrow : row = [.string xs[m]] := hrx
   have hcell : wr.cell? ⟨b, off + m, none⟩ = some (.string xs[m]) := by simpa using hrr 0 (.string xs[m]) (by rw [hrow]; rfl)
   have hlt' : (m : Int) < (xs.length : Int) := by omega
   have hst : Hid (((xs.take (m + 1)).map ByteArray.size).sum = ((xs.take m).map ByteArray.size).sum + xs[m].size) := sum_take ByteArray.size xs m hlt
   have hle : Hid (((xs.take (m + 1)).map ByteArray.size).sum ≤ (xs.map ByteArray.size).sum) := sum_take_le ByteArray.size xs (m + 1)
   have hsm : xs[m].size ≤ 9223372036854775807 := hsH.out _ (List.getElem_mem hlt)
   obtain ⟨s, hs⟩ : ∃ s, s = xs[m] := ⟨_, rfl⟩
   rw [← hs] at hcell hst hsm
   clear hrr hrl hrx hrow hs
   by_cases hcc : z < s.size
   ·go_wp2
    go_ret
    have := hz.out; have := hst.out; have := hle.out
    exact ⟨SzQ.neg (by unfold sumL; omega), rfl⟩
   ·go_wp2
    go_roundw
    case rel =>
     have := hz.out; have := hst.out
     exact ⟨m + 1, _, by omega, rfl, by omega, by omega, (show _ = _ by omega), by go_num, trivial⟩
    case measure => simp [intOf]; omega
  ·go_wp2
   go_ret
   have h := hz.out
   rw [List.take_of_length_le (by omega)] at h
   exact ⟨SzQ.pos (by unfold sumL; omega) (by unfold sumL; omega), rfl⟩
theorem szInts_callsL (a : Option Addr) (n c : Nat) (l : Int) (w : World) (hn : n ≤ 9223372036854775807) (hl0 : 0 ≤ l) (hl1 : l ≤ 1048576) :
  Calls Tryz.prog 172 #[.slice a n c, .int .i64 l] w fun e w' => SzQ l n e ∧ w' = w := by
 by_cases h : l < n
 ·go_enter Tryz.func172, Tryz.ntmps172
  go_wp2
  go_ret
  exact ⟨SzQ.neg h, rfl⟩
 ·go_enter Tryz.func172, Tryz.ntmps172
  go_wp2
  go_ret
  exact ⟨SzQ.pos (by omega) rfl, rfl⟩
theorem szLineS_calls (a : Option Addr) (n c : Nat) (l : Int) (w : World) (hn : n ≤ 9223372036854775807) (hl0 : 0 ≤ l) (hl1 : l ≤ 1048576) :
  Calls Tryz.prog 102 #[.slice a n c, .int .i64 l] w fun e w' => SzQ l n e ∧ w' = w := by
 by_cases h : l < n
 ·go_enter Tryz.func102, Tryz.ntmps102
  go_wp2
  go_ret
  exact ⟨SzQ.neg h, rfl⟩
 ·go_enter Tryz.func102, Tryz.ntmps102
  go_wp2
  go_ret
  exact ⟨SzQ.pos (by omega) rfl, rfl⟩
theorem szIns_callsL (x : InsL) (hy : x.upto) : ElemSz 134 9 InsR InsL.sz x := by
 intro w row own lo hi l hh hx hl hl0 hl1
 obtain ⟨v, rfl, hv⟩ := hx
 obtain ⟨ta, c, rfl⟩ := hv.form
 obtain ⟨hT, hC, hN, hY, hz⟩ := hy
 unfold InsL.sz
 obtain ⟨n, hn⟩ : ∃ n, n = x.zs.length := ⟨_, rfl⟩
 rw [← hn] at hz ⊢
 have szH : Hid (∀ (l : Int) (w : World), 0 ≤ l → l ≤ 1048576 → Calls Tryz.prog 172 #[.slice ta n c, .int .i64 l] w fun e w' => SzQ l n e ∧ w' = w) := fun l w h0 h1 => szInts_callsL ta n c l w hz h0 h1
 clear hv hl hh hn
 go_enter Tryz.func134, Tryz.ntmps134
 go_wp2_with (go_at_call 172; refine (szH.out _ _ (by omega) (by omega)).mono ?_; rintro e w' ⟨⟨r, rfl, hr1, hr2⟩, he⟩; subst he)
 all_goals (
  go_ret
  refine ⟨?_, below_1 _ _⟩
  go_light
  clear szH
  first | exact SzQ.neg (by omega) | exact SzQ.pos (by omega) (by omega))
theorem szHand_calls (x : HandL) (hy : x.upto) : ElemSz 135 4 HandR HandL.sz x := by
 intro w row own lo hi l hh hx hl hl0 hl1
 obtain rfl : row = [.int .i64 x.fr, .int .i64 x.to, .int .i64 x.at', .string x.ty] := hx
 have hT : x.ty.size ≤ 9223372036854775807 := hy
 unfold HandL.sz
 clear hl hh hy
 go_enter Tryz.func135, Tryz.ntmps135
 go_wp2
 all_goals (
  go_ret
  refine ⟨?_, below_1 _ _⟩
  go_light
  first | exact SzQ.neg (by omega) | exact SzQ.pos (by omega) (by omega))
theorem szFrame_calls (x : FrameL) (hy : x.upto) : ElemSz 136 3 FrameR FrameL.sz x := by
 intro w row own lo hi l hh hx hl hl0 hl1
 obtain ⟨u, v, rfl, hu, hv⟩ := hx
 have c1 : Hid (∀ (l : Int) (W : World), Below w.heap.size w W → 0 ≤ l → l ≤ 1048576 → Calls Tryz.prog 40 #[u, .int .i64 l] W fun e w' => SzQ l (sumL ByteArray.size x.locs) e ∧ w' = W) := fun l W hW h0 h1 =>
  szStrs_calls u x.locs W own lo hi l (hu.kept StrR.stable (Nat.le_refl _) (Nat.le_refl _) ((Same.below hW).mono (Nat.zero_le _) hh)) hy.1 hy.2.2.1 h0 h1
 have c2 : Hid (∀ (l : Int) (W : World), Below w.heap.size w W → 0 ≤ l → l ≤ 1048576 → Calls Tryz.prog 40 #[v, .int .i64 l] W fun e w' => SzQ l (sumL ByteArray.size x.stk) e ∧ w' = W) := fun l W hW h0 h1 =>
  szStrs_calls v x.stk W own lo hi l (hv.kept StrR.stable (Nat.le_refl _) (Nat.le_refl _) ((Same.below hW).mono (Nat.zero_le _) hh)) hy.2.1 hy.2.2.2 h0 h1
 unfold FrameL.sz
 generalize sumL ByteArray.size x.locs = n1 at *
 generalize sumL ByteArray.size x.stk = n2 at *
 obtain ⟨a1, k1, rfl⟩ := hu.form
 obtain ⟨a2, k2, rfl⟩ := hv.form
 clear hu hv hy hl hh
 go_enter Tryz.func136, Tryz.ntmps136
 go_wp2_with fail
 refine (c1.out l _ (below_1 _ _) (by omega) (by omega)).mono ?_
 rintro e w1 ⟨⟨r, rfl, hr1, hr2⟩, rfl⟩
 by_cases h1 : l < n1
 ·obtain rfl := hr1 h1
  go_wp2
  go_ret
  exact ⟨SzQ.neg (by omega), below_1 _ _⟩
 obtain rfl := hr2 (by omega)
 clear hr1 hr2
 go_wp2_with fail
 refine (c2.out _ _ (below_1 _ _) (by omega) (by omega)).mono ?_
 rintro e w1 ⟨⟨r, rfl, hr1, hr2⟩, rfl⟩
 by_cases h2 : l - n1 < n2
 ·obtain rfl := hr1 h2
  go_wp2
  go_ret
  exact ⟨SzQ.neg (by omega), below_1 _ _⟩
 obtain rfl := hr2 (by omega)
 clear hr1 hr2
 go_wp2
 go_ret
 exact ⟨SzQ.pos (by omega) (by omega), below_1 _ _⟩
structure Rec1 (w W : World) (I : List Value) : Prop where
 hb : Below w.heap.size w W
 sz : w.heap.size + 1 ≤ W.heap.size
 one : W.rangeAt w.heap.size 0 I
theorem Rec1.start {w W : World} {I : Array Value} {t : TypeId} (hW : W = w.alloc (.cells I t)) : Rec1 w W I.toList := by
 have h0 : W.heap[w.heap.size]? = some (.cells I t (0, 0)) := by rw [hW]; exact heap_alloc_new w _
 exact ⟨by rw [hW]; exact below_1 _ _, by rw [hW]; simp, rangeAt_heap h0⟩
theorem Rec1.call {w W w1 : World} {I : List Value} (h : Rec1 w W I) (hb : Below W.heap.size W w1) : Rec1 w w1 I := by
 obtain ⟨h1, h2, h3⟩ := h
 have := hb.size
 exact ⟨below_on2 h1 hb, by omega, rangeAt_same (Same.below hb) (Nat.zero_le _) (by omega) h3⟩
theorem Rec1.cell {w W : World} {I : List Value} (h : Rec1 w W I) (i : Nat) (v : Value) (hv : I[i]? = some v) : W.cell? ⟨w.heap.size, i, none⟩ = some v := by simpa using h.one i v hv
theorem szMeth_calls (x : MethL) (hy : x.upto) : ElemSz 70 9 MethR MethL.sz x := by
 intro w row own lo hi l hh hx hl hl0 hl1
 obtain ⟨p, q, s, t, rfl, hp, hq, hs, ht⟩ := hx
 obtain ⟨hN, hS, ⟨hc0, hc1⟩, ⟨hd0, hd1⟩, ⟨hf0, hf1⟩, hl9⟩ := hy
 have c1 : Hid (∀ (l : Int) (W : World), Below w.heap.size w W → 0 ≤ l → l ≤ 1048576 → Calls Tryz.prog 99 #[p, .int .i64 l] W fun e w' => SzQ l (sumL InsL.sz x.code) e ∧ Below W.heap.size W w') := fun l W hW h0 h1 =>
  szInsS_calls p x.code W own lo hi l (Nat.le_trans hh hW.size) (hp.kept InsR.stable (Nat.le_refl _) (Nat.le_refl _) ((Same.below hW).mono (Nat.zero_le _) hh)) hc0 h0 h1 (fun y hy => szIns_callsL y (hc1 y hy))
 have c2 : Hid (∀ (l : Int) (W : World), Below w.heap.size w W → 0 ≤ l → l ≤ 1048576 → Calls Tryz.prog 100 #[q, .int .i64 l] W fun e w' => SzQ l (sumL HandL.sz x.hands) e ∧ Below W.heap.size W w') := fun l W hW h0 h1 =>
  szHandS_calls q x.hands W own lo hi l (Nat.le_trans hh hW.size) (hq.kept HandR.stable (Nat.le_refl _) (Nat.le_refl _) ((Same.below hW).mono (Nat.zero_le _) hh)) hd0 h0 h1 (fun y hy => szHand_calls y (hd1 y hy))
 have c3 : Hid (∀ (l : Int) (W : World), Below w.heap.size w W → 0 ≤ l → l ≤ 1048576 → Calls Tryz.prog 101 #[s, .int .i64 l] W fun e w' => SzQ l (sumL FrameL.sz x.frames) e ∧ Below W.heap.size W w') := fun l W hW h0 h1 =>
  szFrameS_calls s x.frames W own lo hi l (Nat.le_trans hh hW.size) (hs.kept FrameR.stable (Nat.le_refl _) (Nat.le_refl _) ((Same.below hW).mono (Nat.zero_le _) hh)) hf0 h0 h1 (fun y hy => szFrame_calls y (hf1 y hy))
 obtain ⟨a4, k4, rfl⟩ := ht.form
 have c4 : Hid (∀ (l : Int) (W : World), 0 ≤ l → l ≤ 1048576 → Calls Tryz.prog 102 #[.slice a4 x.lines.length k4, .int .i64 l] W fun e w' => SzQ l x.lines.length e ∧ w' = W) := fun l W h0 h1 => szLineS_calls a4 x.lines.length k4 l W hl9 h0 h1
 unfold MethL.sz
 generalize sumL InsL.sz x.code = n1 at *
 generalize sumL HandL.sz x.hands = n2 at *
 generalize sumL FrameL.sz x.frames = n3 at *
 obtain ⟨a1, k1, rfl⟩ := hp.form
 obtain ⟨a2, k2, rfl⟩ := hq.form
 obtain ⟨a3, k3, rfl⟩ := hs.form
 generalize x.lines.length = n4 at *
 generalize x.code.length = m1 at *
 generalize x.hands.length = m2 at *
 generalize x.frames.length = m3 at *
 clear hp hq hs ht hl hh hc0 hc1 hd0 hd1 hf0 hf1 hl9
 by_cases h1 : l < x.name.size
 ·go_enter Tryz.func70, Tryz.ntmps70
  go_wp2
  go_ret
  exact ⟨SzQ.neg (by omega), below_1 _ _⟩
 by_cases h2 : l - x.name.size < x.sig.size
 ·go_enter Tryz.func70, Tryz.ntmps70
  go_wp2
  go_ret
  exact ⟨SzQ.neg (by omega), below_1 _ _⟩
 go_enter Tryz.func70, Tryz.ntmps70
 go_wp2_with fail
 obtain ⟨W0, hW0⟩ : ∃ W : World, W = w.alloc (.cells #[.string x.name, .string x.sig, .int .i64 x.flags, .int .i64 x.stack, .int .i64 x.locals, .slice a1 m1 k1, .slice a2 m2 k2, .slice a3 m3 k3, .slice a4 n4 k4] 107) := ⟨_, rfl⟩
 rw [← hW0]
 have r0 : Hid (Rec1 w W0 [.string x.name, .string x.sig, .int .i64 x.flags, .int .i64 x.stack, .int .i64 x.locals, .slice a1 m1 k1, .slice a2 m2 k2, .slice a3 m3 k3, .slice a4 n4 k4]) := Rec1.start hW0
 clear hW0
 refine (c1.out _ _ r0.out.hb (by omega) (by omega)).mono ?_
 rintro e w1 ⟨⟨r, rfl, hr1, hr2⟩, hb1⟩
 have r1 : Hid (Rec1 w w1 [.string x.name, .string x.sig, .int .i64 x.flags, .int .i64 x.stack, .int .i64 x.locals, .slice a1 m1 k1, .slice a2 m2 k2, .slice a3 m3 k3, .slice a4 n4 k4]) := r0.out.call hb1
 have y1 := r1.out.cell 6 _ rfl
 clear hb1
 by_cases h3 : l - x.name.size - x.sig.size < n1
 ·obtain rfl := hr1 h3
  go_wp2
  go_ret
  exact ⟨SzQ.neg (by omega), r1.out.hb⟩
 obtain rfl := hr2 (by omega)
 clear hr1 hr2
 go_wp2_with fail
 clear y1
 refine (c2.out _ _ r1.out.hb (by omega) (by omega)).mono ?_
 rintro e w2 ⟨⟨r, rfl, hr1, hr2⟩, hb2⟩
 have r2 : Hid (Rec1 w w2 [.string x.name, .string x.sig, .int .i64 x.flags, .int .i64 x.stack, .int .i64 x.locals, .slice a1 m1 k1, .slice a2 m2 k2, .slice a3 m3 k3, .slice a4 n4 k4]) := r1.out.call hb2
 have y2 := r2.out.cell 7 _ rfl
 clear hb2
 by_cases h4 : l - x.name.size - x.sig.size - n1 < n2
 ·obtain rfl := hr1 h4
  go_wp2
  go_ret
  exact ⟨SzQ.neg (by omega), r2.out.hb⟩
 obtain rfl := hr2 (by omega)
 clear hr1 hr2
 go_wp2_with fail
 clear y2
 refine (c3.out _ _ r2.out.hb (by omega) (by omega)).mono ?_
 rintro e w3 ⟨⟨r, rfl, hr1, hr2⟩, hb3⟩
 have r3 : Hid (Rec1 w w3 [.string x.name, .string x.sig, .int .i64 x.flags, .int .i64 x.stack, .int .i64 x.locals, .slice a1 m1 k1, .slice a2 m2 k2, .slice a3 m3 k3, .slice a4 n4 k4]) := r2.out.call hb3
 have y3 := r3.out.cell 8 _ rfl
 clear hb3
 by_cases h5 : l - x.name.size - x.sig.size - n1 - n2 < n3
 ·obtain rfl := hr1 h5
  go_wp2
  go_ret
  exact ⟨SzQ.neg (by omega), r3.out.hb⟩
 obtain rfl := hr2 (by omega)
 clear hr1 hr2
 go_wp2_with fail
 clear y3
 refine (c4.out _ _ (by omega) (by omega)).mono ?_
 rintro e w4 ⟨⟨r, rfl, hr1, hr2⟩, rfl⟩
 by_cases h6 : l - x.name.size - x.sig.size - n1 - n2 - n3 < n4
 ·obtain rfl := hr1 h6
  go_wp2
  go_ret
  exact ⟨SzQ.neg (by omega), r3.out.hb⟩
 obtain rfl := hr2 (by omega)
 clear hr1 hr2
 go_wp2
 go_ret
 exact ⟨SzQ.pos (by omega) (by omega), r3.out.hb⟩
theorem sumL_le {α : Type} {f : α → Nat} {xs : List α} {n : Nat} (h : sumL f xs ≤ n) : xs.length ≤ n ∧ ∀ x ∈ xs, f x ≤ n := by
 unfold sumL at h
 exact ⟨by omega, fun x hx => by have := sum_mem_le f xs x hx; omega⟩
theorem MethL.small_of_sz {x : MethL} (h : x.sz ≤ 1048576) : x.small := by
 unfold MethL.sz at h
 have hc := sumL_le (f := InsL.sz) (xs := x.code) (n := 1048576) (by omega)
 have hd := sumL_le (f := HandL.sz) (xs := x.hands) (n := 1048576) (by omega)
 have hf := sumL_le (f := FrameL.sz) (xs := x.frames) (n := 1048576) (by omega)
 refine ⟨by omega, by omega, ⟨hc.1, fun y hy => ?_⟩, ⟨hd.1, fun y hy => hd.2 y hy⟩, ⟨hf.1, fun y hy => ?_⟩, by omega⟩
 ·have := hc.2 y hy
  unfold InsL.sz at this
  exact ⟨by omega, by omega, by omega, by omega, by omega⟩
 ·have := hf.2 y hy
  unfold FrameL.sz at this
  have h1 := sumL_le (f := ByteArray.size) (xs := y.locs) (n := 1048576) (by omega)
  have h2 := sumL_le (f := ByteArray.size) (xs := y.stk) (n := 1048576) (by omega)
  exact ⟨h1.1, h2.1, h1.2, h2.2⟩
theorem open_list {α : Type} (R : Rd α) (k : Nat) (Q : α → Prop) (hk1 : 0 < k) {H : Type} {enc : TypeId × Value → H} {W : World} {t e : TypeId} {n : Nat} {v : Value} {y : DataW H × List MemPlace}
  (ht : Tryz.prog.underlying t = some (.slice e)) (hk : Tryz.prog.cellsOf e = k)
  (hel : ∀ (n : Nat) (cs : List Value) (z : DataW H × List MemPlace), cs.length = k → DataW.trod enc Tryz.prog W 0 (fun _ => true) true n e cs = some z → (∀ p ∈ z.2, p.block < W.heap.size) → ∃ x, R false 0 W.heap.size W cs x ∧ Q x)
  (h : DataW.trod enc Tryz.prog W 0 (fun _ => true) true n t [v] = some y) (hlt : ∀ p ∈ y.2, p.block < W.heap.size) :
  ∃ xs : List α, ListAt R k false 0 W.heap.size W v xs ∧ xs.length ≤ 9223372036854775807 ∧ ∀ x ∈ xs, Q x := by
 rcases Go.Deep.open_slice ht h with ⟨hcs, hx⟩ | ⟨a, len, cap, m, n', D, Pl, hcs, _, hl, hm, hmm, hx, hall⟩
 ·simp at hcs
  exact ⟨[], .inl ⟨rfl, rfl, _, _, hcs⟩, by simp, by simp⟩
 ·simp at hcs
  subst hcs
  simp only [if_true] at hmm
  have hlm : len ≤ m := by omega
  rw [hk] at hall hx
  have each : ∀ i, i < len → ∃ x : α, ∃ cs : List Value, cs.length = k ∧ (∀ j u, cs[j]? = some u → W.cell? ((a.add (i * k)).add j) = some u) ∧ R false 0 W.heap.size W cs x ∧ Q x := fun i hi => by
   obtain ⟨cs, hc, htr⟩ := hall i (by omega)
   obtain ⟨_, hlen, hcell0⟩ := World.cells?_some hc
   have hcell : ∀ j u, cs[j]? = some u → W.cell? ((a.add (i * k)).add j) = some u := fun j u hu => by
    rw [hcell0 j (by have := (List.getElem?_eq_some_iff.1 hu).1; omega)]; exact hu
   obtain ⟨x, hr, hq⟩ := hel n' cs _ hlen htr (fun p hp => hlt p (by
    rw [hx]
    exact List.mem_append_right _ (List.mem_flatMap.2 ⟨i, List.mem_range.2 (by omega), hp⟩)))
   exact ⟨x, cs, hlen, hcell, hr, hq⟩
  by_cases h0 : len = 0
  ·subst h0
   exact ⟨[], .inl ⟨rfl, rfl, _, _, rfl⟩, by simp, by simp⟩
  obtain ⟨b, off, spot⟩ := a
  have hspot : spot = none := by
   obtain ⟨x, cs, hlen, hcell, _⟩ := each 0 (by omega)
   have := hcell 0 cs[0] (by simp)
   simpa [Addr.add] using World.cell?_spot this
  subst hspot
  obtain ⟨f, hf⟩ : ∃ f : Nat → α, ∀ i, i < len → ∃ cs : List Value, cs.length = k ∧ (∀ j u, cs[j]? = some u → W.cell? (((⟨b, off, none⟩ : Addr).add (i * k)).add j) = some u) ∧ R false 0 W.heap.size W cs (f i) ∧ Q (f i) := by
   obtain ⟨x0, _⟩ := each 0 (by omega)
   refine ⟨fun i => if hi : i < len then (each i hi).choose else x0, fun i hi => ?_⟩
   simp only [hi, dif_pos]
   exact (each i hi).choose_spec
  have hb : b < W.heap.size := by
   obtain ⟨cs, hlen, hcell, _⟩ := hf 0 (by omega)
   have := World.block_lt_of_cell? W _ (hcell 0 cs[0] (by simp))
   simpa [Addr.add] using this
  refine ⟨(List.range len).map f, .inr ⟨b, off, cap, by simp, Nat.zero_le _, hb, (fun h => by cases h), fun j hj => ?_⟩, ?_, fun x hx => ?_⟩
  ·have hj' : j < len := by simpa using hj
   obtain ⟨cs, hlen, hcell, hr, _⟩ := hf j hj'
   refine ⟨cs, hlen, fun i u hu => ?_, by simpa using hr⟩
   have := hcell i u hu
   rwa [Addr.add_mid, Addr.add_mid] at this
  ·simp; unfold maxLen at hm; omega
  ·obtain ⟨i, hi, rfl⟩ := List.mem_map.1 hx
   exact (hf i (List.mem_range.1 hi)).choose_spec.2.2.2
end Go.Proofs.YtjjccimeikkogaaGreatDoor
