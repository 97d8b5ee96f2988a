/- Two records that read alike are found equal. -/
import Derived.Test.YthbledmeghkfpaaGreatDoorDeepA
import Derived.Deep.RegionHeld3
import Derived.Test.YthbledmeghkfpaaGreatDoorSpB
namespace Go.Proofs.YthbledmeghkfpaaGreatDoor
set_option linter.unusedVariables false
open Go.ChangeShapes Go.WideShapes Go.ChangeAt Go.RowKit

theorem below_on {w W w' : World} (h : Below w.heap.size w W) (h2 : Below W.heap.size W w') : Below w.heap.size w w' := h.trans (h2.mono h.size)
/-- What holding one element against another says. -/
def ElemEq {α : Type} (f k : Nat) (R : Rd α) (x : α) : Prop := ∀ (W : World) (r1 r2 : List Value) (lo1 hi1 lo2 hi2 : Nat), hi1 ≤ W.heap.size → hi2 ≤ W.heap.size → R true lo1 hi1 W r1 x → R true lo2 hi2 W r2 x → r1.length = k → r2.length = k → Calls Tryz.prog f #[.agg r1.toArray, .agg r2.toArray] W fun e w' => e = .returned (.bool true) ∧ Below W.heap.size W w'

theorem below_2 (w : World) (a b : Obj) : Below w.heap.size w ((w.alloc a).alloc b) := ((Below.refl _ _).alloc (Nat.le_refl _) _).alloc (by simp) _
theorem below_drewN {B : Nat} {w w' : World} (h : Below B w w') (n : Nat) : Below B w (w'.drewN n) := by
  induction n with
  | zero => exact h
  | succ n ih => exact ih.drew

theorem ListAt.tab {lo hi : Nat} {w : World} {v : Value} {zs : List Int} (h : ListAt IntR 1 true lo hi w v zs) (hh : hi ≤ w.heap.size) : Tab w v zs := by
  rcases h with ⟨h, _⟩ | ⟨b, off, c, hv, hlo, hhi, ho, hc⟩
  · cases h
  · have h0 := ho rfl
    subst h0
    refine .inr ⟨b, c, hv, by omega, fun j hj => ?_⟩
    obtain ⟨row, hl, hr, hx⟩ := hc j hj
    have : row = [.int .i64 zs[j]] := hx
    simpa using hr 0 (.int .i64 zs[j]) (by rw [this]; rfl)
theorem ListAt.strAt {own : Bool} {lo hi : Nat} {w : World} {a : Option Addr} {n c : Nat} {ss : List ByteArray} (h : ListAt StrR 1 own lo hi w (.slice a n c) ss) (j : Nat) (hj : j < ss.length) : ∃ b off, a = some ⟨b, off, none⟩ ∧ w.cell? ⟨b, off + j, none⟩ = some (.string ss[j]) := by
  obtain ⟨b, off, row, h1, _, hl, hr, hx⟩ := h.at j hj
  have : row = [.string ss[j]] := hx
  exact ⟨b, off, h1, by simpa using hr 0 (.string ss[j]) (by rw [this]; rfl)⟩

set_option maxRecDepth 1000000 in
set_option maxHeartbeats 1000000 in
theorem eqStrs_calls (u v : Value) (xs : List ByteArray) (w : World) (o1 o2 : Bool) (lo1 hi1 lo2 hi2 : Nat) (hu : ListAt StrR 1 o1 lo1 hi1 w u xs) (hv : ListAt StrR 1 o2 lo2 hi2 w v xs) (hx : xs.length ≤ 1048576) :
    Calls Tryz.prog 41 #[u, v] w fun e w' => e = .returned (.bool true) ∧ ∃ n, w' = w.drewN n := by
  obtain ⟨a, c, rfl⟩ := hu.form
  obtain ⟨a2, c2, rfl⟩ := hv.form
  have cu : Hid (∀ k (h : k < xs.length), ∃ b off, a = some ⟨b, off, none⟩ ∧ w.cell? ⟨b, off + k, none⟩ = some (.string xs[k])) := fun k h => hu.strAt k h
  have cv : Hid (∀ k (h : k < xs.length), ∃ b off, a2 = some ⟨b, off, none⟩ ∧ w.cell? ⟨b, off + k, none⟩ = some (.string xs[k])) := fun k h => hv.strAt k h
  clear hu hv
  go_enter Tryz.func41, Tryz.ntmps41
  go_wp2
  go_loopw [5] (fun i wr => ∃ k n : Nat, k ≤ xs.length ∧ i = .int .i64 k ∧ wr = w.drewN n) (fun i _ => xs.length - (intOf i).toNat)
  case atStart => exact ⟨0, 0, Nat.zero_le _, rfl, rfl⟩
  case round =>
    obtain ⟨k, n, hk, rfl, rfl⟩ := hrel
    by_cases hlt : k < xs.length
    · obtain ⟨b, off, rfl, hcell⟩ := cu.out k hlt
      obtain ⟨b2, off2, rfl, hcell2⟩ := cv.out k hlt
      have hlt' : (k : Int) < (xs.length : Int) := by omega
      obtain ⟨s, hs⟩ : ∃ s, s = xs[k] := ⟨_, rfl⟩
      rw [← hs] at hcell hcell2
      have hss : (s.toList != s.toList) = false := by simp
      clear hs
      go_wp2
      go_quiet (fail)
      go_wp2
      go_roundw
      case rel => exact ⟨k + 1, _, by omega, by go_num, rfl⟩
      case measure => simp [intOf]; omega
    · go_wp2
      go_ret
      exact ⟨rfl, _, rfl⟩

set_option maxRecDepth 1000000 in
set_option maxHeartbeats 1000000 in
theorem eqHand_calls (x : HandL) : ElemEq 120 4 HandR x := by
  intro w r1 r2 lo1 hi1 lo2 hi2 h1 h2 hx1 hx2 hl1 hl2
  obtain rfl : r1 = [.int .i64 x.fr, .int .i64 x.to, .int .i64 x.at', .string x.ty] := hx1
  obtain rfl : r2 = [.int .i64 x.fr, .int .i64 x.to, .int .i64 x.at', .string x.ty] := hx2
  have b0 : (x.fr != x.fr) = false := by simp
  have b1 : (x.to != x.to) = false := by simp
  have b2 : (x.at' != x.at') = false := by simp
  have b3 : (x.ty.toList != x.ty.toList) = false := by simp
  clear hl1 hl2 h1 h2
  go_enter Tryz.func120, Tryz.ntmps120
  go_wp2
  go_ret
  exact ⟨rfl, below_2 _ _ _⟩

set_option maxRecDepth 1000000 in
set_option maxHeartbeats 1000000 in
theorem eqLine_calls (x : LineL) : ElemEq 122 2 LineR x := by
  intro w r1 r2 lo1 hi1 lo2 hi2 h1 h2 hx1 hx2 hl1 hl2
  obtain rfl : r1 = [.int .i64 x.at', .int .i64 x.n] := hx1
  obtain rfl : r2 = [.int .i64 x.at', .int .i64 x.n] := hx2
  have b0 : (x.at' != x.at') = false := by simp
  have b1 : (x.n != x.n) = false := by simp
  clear hl1 hl2 h1 h2
  go_enter Tryz.func122, Tryz.ntmps122
  go_wp2
  go_ret
  exact ⟨rfl, below_2 _ _ _⟩

set_option maxRecDepth 1000000 in
set_option maxHeartbeats 1000000 in
theorem eqFrame_calls (x : FrameL) (hy : x.small) : ElemEq 121 3 FrameR x := by
  intro w r1 r2 lo1 hi1 lo2 hi2 h1 h2 hx1 hx2 hl1 hl2
  obtain ⟨p1, q1, rfl, hp1, hq1⟩ := hx1
  obtain ⟨p2, q2, rfl, hp2, hq2⟩ := hx2
  have cp : Hid (∀ W, Below w.heap.size w W → Calls Tryz.prog 41 #[p1, p2] W fun e w' => e = .returned (.bool true) ∧ ∃ n, w' = W.drewN n) := fun W hW =>
    eqStrs_calls p1 p2 x.locs W true true lo1 hi1 lo2 hi2 (hp1.kept StrR.stable (Nat.le_refl _) (Nat.le_refl _) ((Same.below hW).mono (Nat.zero_le _) h1)) (hp2.kept StrR.stable (Nat.le_refl _) (Nat.le_refl _) ((Same.below hW).mono (Nat.zero_le _) h2)) hy.1
  have cq : Hid (∀ W, Below w.heap.size w W → Calls Tryz.prog 41 #[q1, q2] W fun e w' => e = .returned (.bool true) ∧ ∃ n, w' = W.drewN n) := fun W hW =>
    eqStrs_calls q1 q2 x.stk W true true lo1 hi1 lo2 hi2 (hq1.kept StrR.stable (Nat.le_refl _) (Nat.le_refl _) ((Same.below hW).mono (Nat.zero_le _) h1)) (hq2.kept StrR.stable (Nat.le_refl _) (Nat.le_refl _) ((Same.below hW).mono (Nat.zero_le _) h2)) hy.2.1
  obtain ⟨a1, c1, rfl⟩ := hp1.form
  obtain ⟨a2, c2, rfl⟩ := hp2.form
  obtain ⟨a3, c3, rfl⟩ := hq1.form
  obtain ⟨a4, c4, rfl⟩ := hq2.form
  have b0 : (x.at' != x.at') = false := by simp
  clear hp1 hp2 hq1 hq2 hl1 hl2 h1 h2 hy
  have cc : Hid (∀ u v W, Below w.heap.size w W → ((u = Value.slice a1 x.locs.length c1 ∧ v = Value.slice a2 x.locs.length c2) ∨ (u = Value.slice a3 x.stk.length c3 ∧ v = Value.slice a4 x.stk.length c4)) → Calls Tryz.prog 41 #[u, v] W fun e w' => e = .returned (.bool true) ∧ ∃ n, w' = W.drewN n) := fun u v W hW h => by
    rcases h with ⟨rfl, rfl⟩ | ⟨rfl, rfl⟩
    · exact cp.out W hW
    · exact cq.out W hW
  clear cp cq
  go_enter Tryz.func121, Tryz.ntmps121
  go_wp2_with (go_at_call 41; refine (cc.out _ _ _ (by first | exact below_2 _ _ _ | exact below_drewN (below_2 _ _ _) _) (by first | exact .inl ⟨rfl, rfl⟩ | exact .inr ⟨rfl, rfl⟩)).mono ?_; rintro e w1 ⟨rfl, nq, rfl⟩)
  go_ret
  exact ⟨rfl, by first | exact below_drewN (below_drewN (below_2 _ _ _) _) _ | exact below_drewN (below_2 _ _ _) _⟩

set_option maxRecDepth 1000000 in
set_option maxHeartbeats 4000000 in
theorem eqInsL_calls (x : InsL) (hy : x.small) : ElemEq 119 9 InsR x := by
  intro w r1 r2 lo1 hi1 lo2 hi2 h1 h2 hx1 hx2 hl1 hl2
  obtain ⟨p1, rfl, hp1⟩ := hx1
  obtain ⟨p2, rfl, hp2⟩ := hx2
  have cp : Hid (∀ W, Below w.heap.size w W → Calls Tryz.prog 146 #[p1, p2] W fun e w' => e = .returned (.bool true) ∧ ∃ n, w' = W.drewN n) := fun W hW => by
    have := eqInts_calls p1 p2 x.zs x.zs W ((hp1.kept IntR.stable (Nat.le_refl _) (Nat.le_refl _) ((Same.below hW).mono (Nat.zero_le _) h1)).tab (Nat.le_trans h1 hW.size)) ((hp2.kept IntR.stable (Nat.le_refl _) (Nat.le_refl _) ((Same.below hW).mono (Nat.zero_le _) h2)).tab (Nat.le_trans h2 hW.size)) hy.2.2.2.2 hy.2.2.2.2
    rwa [show (x.zs == x.zs) = true from by simp] at this
  obtain ⟨a1, c1, rfl⟩ := hp1.form
  obtain ⟨a2, c2, rfl⟩ := hp2.form
  have b1 : (x.o != x.o) = false := by simp
  have b2 : (x.k != x.k) = false := by simp
  have b3 : (x.a != x.a) = false := by simp
  have b4 : (x.b != x.b) = false := by simp
  have b5 : (x.T.toList != x.T.toList) = false := by simp
  have b6 : (x.C.toList != x.C.toList) = false := by simp
  have b7 : (x.N.toList != x.N.toList) = false := by simp
  have b8 : (x.Y.toList != x.Y.toList) = false := by simp
  clear hp1 hp2 hl1 hl2 h1 h2 hy
  go_enter Tryz.func119, Tryz.ntmps119
  go_wp2_with (go_at_call 146; refine (cp.out _ (below_2 _ _ _)).mono ?_; rintro e w1 ⟨rfl, nq, rfl⟩)
  go_ret
  exact ⟨rfl, below_drewN (below_2 _ _ _) _⟩
end Go.Proofs.YthbledmeghkfpaaGreatDoor

/- Two lists of records, and two methods, that read alike are found equal. -/
namespace Go.Proofs.YthbledmeghkfpaaGreatDoor
set_option linter.unusedVariables false
open Go.ChangeShapes Go.WideShapes Go.ChangeAt Go.RowKit

/-- Two records held against each other: each in a block of its own. -/
structure Rec2 (w W : World) (I J : List Value) : Prop where
  hb : Below w.heap.size w W
  sz : w.heap.size + 2 ≤ W.heap.size
  one : W.rangeAt w.heap.size 0 I
  two : W.rangeAt (w.heap.size + 1) 0 J
theorem Rec2.start {w W : World} {I J : Array Value} {t t' : TypeId} (hW : W = (w.alloc (.cells I t)).alloc (.cells J t')) : Rec2 w W I.toList J.toList := by
  have h1 : W.heap[w.heap.size + 1]? = some (.cells J t' (0, 0)) := by
    rw [hW]
    have h := heap_alloc_new (w.alloc (.cells I t)) (.cells J t')
    simpa using h
  have h0 : W.heap[w.heap.size]? = some (.cells I t (0, 0)) := by
    rw [hW, Below.heap_alloc _ _ _ (by simp)]
    exact heap_alloc_new w _
  exact ⟨by rw [hW]; exact below_2 _ _ _, by rw [hW]; simp, rangeAt_heap h0, rangeAt_heap h1⟩
theorem Rec2.call {w W w1 : World} {I J : List Value} (h : Rec2 w W I J) (hb : Below W.heap.size W w1) : Rec2 w w1 I J := by
  obtain ⟨h1, h2, h3, h4⟩ := h
  have := hb.size
  exact ⟨below_on h1 hb, by omega, rangeAt_same (Same.below hb) (Nat.zero_le _) (by omega) h3, rangeAt_same (Same.below hb) (Nat.zero_le _) (by omega) h4⟩
theorem Rec2.cell1 {w W : World} {I J : List Value} (h : Rec2 w W I J) (i : Nat) (v : Value) (hv : I[i]? = some v) : W.cell? ⟨w.heap.size, i, none⟩ = some v := by simpa using h.one i v hv
theorem Rec2.cell2 {w W : World} {I J : List Value} (h : Rec2 w W I J) (i : Nat) (v : Value) (hv : J[i]? = some v) : W.cell? ⟨w.heap.size + 1, i, none⟩ = some v := by simpa using h.two i v hv

set_option maxRecDepth 1000000 in
set_option maxHeartbeats 1000000 in
theorem eqInsS_calls (u v : Value) (xs : List InsL) (w : World) (lo1 hi1 lo2 hi2 : Nat) (h1 : hi1 ≤ w.heap.size) (h2 : hi2 ≤ w.heap.size) (hu : ListAt InsR 9 true lo1 hi1 w u xs) (hv : ListAt InsR 9 true lo2 hi2 w v xs) (hn : xs.length ≤ 1048576) (hel : ∀ x ∈ xs, ElemEq 119 9 InsR x) :
    Calls Tryz.prog 97 #[u, v] w fun e w' => e = .returned (.bool true) ∧ Below w.heap.size w w' := by
  obtain ⟨a, c, rfl⟩ := hu.form
  obtain ⟨a2, c2, rfl⟩ := hv.form
  have helH : Hid (∀ x ∈ xs, ElemEq 119 9 InsR x) := hel
  have huH : Hid (∀ wr, Below w.heap.size w wr → ListAt InsR 9 true lo1 hi1 wr (.slice a xs.length c) xs) := fun wr hw => hu.kept InsR.stable (Nat.le_refl _) (Nat.le_refl _) ((Same.below hw).mono (Nat.zero_le _) h1)
  have hvH : Hid (∀ wr, Below w.heap.size w wr → ListAt InsR 9 true lo2 hi2 wr (.slice a2 xs.length c2) xs) := fun wr hw => hv.kept InsR.stable (Nat.le_refl _) (Nat.le_refl _) ((Same.below hw).mono (Nat.zero_le _) h2)
  have hhH : Hid (hi1 ≤ w.heap.size ∧ hi2 ≤ w.heap.size) := ⟨h1, h2⟩
  clear hu hv hel h1 h2
  go_enter Tryz.func97, Tryz.ntmps97
  go_wp2
  go_loopw [5] (fun i wr => ∃ m : Nat, m ≤ xs.length ∧ i = .int .i64 m ∧ Hid (Below w.heap.size w wr)) (fun i _ => xs.length - (intOf i).toNat)
  case atStart => exact ⟨0, Nat.zero_le _, rfl, Below.refl _ _⟩
  case round =>
    obtain ⟨m, hm, rfl, hB⟩ := hrel
    by_cases hlt : m < xs.length
    · obtain ⟨b, off, r1, rfl, hb1, hl1, hr1, hx1⟩ := (huH.out wr hB.out).at m hlt
      obtain ⟨b', off', r2, rfl, hb2, hl2, hr2, hx2⟩ := (hvH.out wr hB.out).at m hlt
      have hlt' : (m : Int) < (xs.length : Int) := by omega
      have hsz := hB.out.size
      have hcH : Hid (∀ W, Below wr.heap.size wr W → Calls Tryz.prog 119 #[.agg r1.toArray, .agg r2.toArray] W fun e w' => e = .returned (.bool true) ∧ Below W.heap.size W w') := fun W hW =>
        helH.out xs[m] (List.getElem_mem hlt) W r1 r2 lo1 hi1 lo2 hi2 (by have := hW.size; have := hhH.out.1; omega) (by have := hW.size; have := hhH.out.2; omega)
          (InsR.stable _ _ _ _ _ _ _ _ _ hx1 (Nat.le_refl _) (Nat.le_refl _) ((Same.below hW).mono (Nat.zero_le _) (by have := hhH.out.1; omega)))
          (InsR.stable _ _ _ _ _ _ _ _ _ hx2 (Nat.le_refl _) (Nat.le_refl _) ((Same.below hW).mono (Nat.zero_le _) (by have := hhH.out.2; omega))) hl1 hl2
      obtain ⟨x, hx⟩ : ∃ x, x = xs[m] := ⟨_, rfl⟩
      rw [← hx] at hx1 hx2
      obtain ⟨p1, rfl, -⟩ := hx1
      obtain ⟨p2, rfl, -⟩ := hx2
      have hmk : Hid (∀ W, Below wr.heap.size wr W → (Below wr.heap.size wr W ∧ W.cell? ⟨b, off + m * 9, none⟩ = some (.int .i64 x.o) ∧ W.cell? ⟨b, off + m * 9 + 1, none⟩ = some (.int .i64 x.k) ∧ W.cell? ⟨b, off + m * 9 + 2, none⟩ = some (.int .i64 x.a) ∧ W.cell? ⟨b, off + m * 9 + 3, none⟩ = some (.int .i64 x.b) ∧ W.cell? ⟨b, off + m * 9 + 4, none⟩ = some (.string x.T) ∧ W.cell? ⟨b, off + m * 9 + 5, none⟩ = some (.string x.C) ∧ W.cell? ⟨b, off + m * 9 + 6, none⟩ = some (.string x.N) ∧ W.cell? ⟨b, off + m * 9 + 7, none⟩ = some (.string x.Y) ∧ W.cell? ⟨b, off + m * 9 + 8, none⟩ = some (p1) ∧ W.cell? ⟨b', off' + m * 9, none⟩ = some (.int .i64 x.o) ∧ W.cell? ⟨b', off' + m * 9 + 1, none⟩ = some (.int .i64 x.k) ∧ W.cell? ⟨b', off' + m * 9 + 2, none⟩ = some (.int .i64 x.a) ∧ W.cell? ⟨b', off' + m * 9 + 3, none⟩ = some (.int .i64 x.b) ∧ W.cell? ⟨b', off' + m * 9 + 4, none⟩ = some (.string x.T) ∧ W.cell? ⟨b', off' + m * 9 + 5, none⟩ = some (.string x.C) ∧ W.cell? ⟨b', off' + m * 9 + 6, none⟩ = some (.string x.N) ∧ W.cell? ⟨b', off' + m * 9 + 7, none⟩ = some (.string x.Y) ∧ W.cell? ⟨b', off' + m * 9 + 8, none⟩ = some (p2))) := fun W hW => by
        have kp1 := rangeAt_same (Same.below hW) (Nat.zero_le _) (show b < wr.heap.size by have := hhH.out.1; omega) hr1
        have kp2 := rangeAt_same (Same.below hW) (Nat.zero_le _) (show b' < wr.heap.size by have := hhH.out.2; omega) hr2
        exact ⟨hW, kp1 0 _ rfl, kp1 1 _ rfl, kp1 2 _ rfl, kp1 3 _ rfl, kp1 4 _ rfl, kp1 5 _ rfl, kp1 6 _ rfl, kp1 7 _ rfl, kp1 8 _ rfl, kp2 0 _ rfl, kp2 1 _ rfl, kp2 2 _ rfl, kp2 3 _ rfl, kp2 4 _ rfl, kp2 5 _ rfl, kp2 6 _ rfl, kp2 7 _ rfl, kp2 8 _ rfl⟩
      clear hr1 hr2 hl1 hl2 hsz hb1 hb2 hx
      have hS0 := hmk.out wr (Below.refl _ _)
      go_wp2
      go_region_held3 (fun W => Below wr.heap.size wr W ∧ W.cell? ⟨b, off + m * 9, none⟩ = some (.int .i64 x.o) ∧ W.cell? ⟨b, off + m * 9 + 1, none⟩ = some (.int .i64 x.k) ∧ W.cell? ⟨b, off + m * 9 + 2, none⟩ = some (.int .i64 x.a) ∧ W.cell? ⟨b, off + m * 9 + 3, none⟩ = some (.int .i64 x.b) ∧ W.cell? ⟨b, off + m * 9 + 4, none⟩ = some (.string x.T) ∧ W.cell? ⟨b, off + m * 9 + 5, none⟩ = some (.string x.C) ∧ W.cell? ⟨b, off + m * 9 + 6, none⟩ = some (.string x.N) ∧ W.cell? ⟨b, off + m * 9 + 7, none⟩ = some (.string x.Y) ∧ W.cell? ⟨b, off + m * 9 + 8, none⟩ = some (p1) ∧ W.cell? ⟨b', off' + m * 9, none⟩ = some (.int .i64 x.o) ∧ W.cell? ⟨b', off' + m * 9 + 1, none⟩ = some (.int .i64 x.k) ∧ W.cell? ⟨b', off' + m * 9 + 2, none⟩ = some (.int .i64 x.a) ∧ W.cell? ⟨b', off' + m * 9 + 3, none⟩ = some (.int .i64 x.b) ∧ W.cell? ⟨b', off' + m * 9 + 4, none⟩ = some (.string x.T) ∧ W.cell? ⟨b', off' + m * 9 + 5, none⟩ = some (.string x.C) ∧ W.cell? ⟨b', off' + m * 9 + 6, none⟩ = some (.string x.N) ∧ W.cell? ⟨b', off' + m * 9 + 7, none⟩ = some (.string x.Y) ∧ W.cell? ⟨b', off' + m * 9 + 8, none⟩ = some (p2)) (first | assumption | exact hmk.out _ (Below.drew (And.left (by assumption))) | exact hmk.out _ (below_on (And.left (by assumption)) (by assumption))) (first | (go_at_call 119; refine (hcH.out _ (by first | exact Below.refl _ _ | assumption | exact And.left (by assumption))).mono ?_; rintro e w2 ⟨rfl, hb2⟩))
      go_wp2
      go_roundw
      case rel => exact ⟨m + 1, by omega, by go_num, below_on hB.out (by first | assumption | exact And.left (by assumption))⟩
      case measure => simp [intOf]; omega
    · go_wp2
      go_ret
      exact ⟨rfl, hB.out⟩

set_option maxRecDepth 1000000 in
set_option maxHeartbeats 1000000 in
theorem eqHandS_calls (u v : Value) (xs : List HandL) (w : World) (lo1 hi1 lo2 hi2 : Nat) (h1 : hi1 ≤ w.heap.size) (h2 : hi2 ≤ w.heap.size) (hu : ListAt HandR 4 true lo1 hi1 w u xs) (hv : ListAt HandR 4 true lo2 hi2 w v xs) (hn : xs.length ≤ 1048576) (hel : ∀ x ∈ xs, ElemEq 120 4 HandR x) :
    Calls Tryz.prog 98 #[u, v] w fun e w' => e = .returned (.bool true) ∧ Below w.heap.size w w' := by
  obtain ⟨a, c, rfl⟩ := hu.form
  obtain ⟨a2, c2, rfl⟩ := hv.form
  have helH : Hid (∀ x ∈ xs, ElemEq 120 4 HandR x) := hel
  have huH : Hid (∀ wr, Below w.heap.size w wr → ListAt HandR 4 true lo1 hi1 wr (.slice a xs.length c) xs) := fun wr hw => hu.kept HandR.stable (Nat.le_refl _) (Nat.le_refl _) ((Same.below hw).mono (Nat.zero_le _) h1)
  have hvH : Hid (∀ wr, Below w.heap.size w wr → ListAt HandR 4 true lo2 hi2 wr (.slice a2 xs.length c2) xs) := fun wr hw => hv.kept HandR.stable (Nat.le_refl _) (Nat.le_refl _) ((Same.below hw).mono (Nat.zero_le _) h2)
  have hhH : Hid (hi1 ≤ w.heap.size ∧ hi2 ≤ w.heap.size) := ⟨h1, h2⟩
  clear hu hv hel h1 h2
  go_enter Tryz.func98, Tryz.ntmps98
  go_wp2
  go_loopw [5] (fun i wr => ∃ m : Nat, m ≤ xs.length ∧ i = .int .i64 m ∧ Hid (Below w.heap.size w wr)) (fun i _ => xs.length - (intOf i).toNat)
  case atStart => exact ⟨0, Nat.zero_le _, rfl, Below.refl _ _⟩
  case round =>
    obtain ⟨m, hm, rfl, hB⟩ := hrel
    by_cases hlt : m < xs.length
    · obtain ⟨b, off, r1, rfl, hb1, hl1, hr1, hx1⟩ := (huH.out wr hB.out).at m hlt
      obtain ⟨b', off', r2, rfl, hb2, hl2, hr2, hx2⟩ := (hvH.out wr hB.out).at m hlt
      have hlt' : (m : Int) < (xs.length : Int) := by omega
      have hsz := hB.out.size
      have hcH : Hid (∀ W, Below wr.heap.size wr W → Calls Tryz.prog 120 #[.agg r1.toArray, .agg r2.toArray] W fun e w' => e = .returned (.bool true) ∧ Below W.heap.size W w') := fun W hW =>
        helH.out xs[m] (List.getElem_mem hlt) W r1 r2 lo1 hi1 lo2 hi2 (by have := hW.size; have := hhH.out.1; omega) (by have := hW.size; have := hhH.out.2; omega)
          (HandR.stable _ _ _ _ _ _ _ _ _ hx1 (Nat.le_refl _) (Nat.le_refl _) ((Same.below hW).mono (Nat.zero_le _) (by have := hhH.out.1; omega)))
          (HandR.stable _ _ _ _ _ _ _ _ _ hx2 (Nat.le_refl _) (Nat.le_refl _) ((Same.below hW).mono (Nat.zero_le _) (by have := hhH.out.2; omega))) hl1 hl2
      obtain ⟨x, hx⟩ : ∃ x, x = xs[m] := ⟨_, rfl⟩
      rw [← hx] at hx1 hx2
      obtain rfl : r1 = [.int .i64 x.fr, .int .i64 x.to, .int .i64 x.at', .string x.ty] := hx1
      obtain rfl : r2 = [.int .i64 x.fr, .int .i64 x.to, .int .i64 x.at', .string x.ty] := hx2
      have hmk : Hid (∀ W, Below wr.heap.size wr W → (Below wr.heap.size wr W ∧ W.cell? ⟨b, off + m * 4, none⟩ = some (.int .i64 x.fr) ∧ W.cell? ⟨b, off + m * 4 + 1, none⟩ = some (.int .i64 x.to) ∧ W.cell? ⟨b, off + m * 4 + 2, none⟩ = some (.int .i64 x.at') ∧ W.cell? ⟨b, off + m * 4 + 3, none⟩ = some (.string x.ty) ∧ W.cell? ⟨b', off' + m * 4, none⟩ = some (.int .i64 x.fr) ∧ W.cell? ⟨b', off' + m * 4 + 1, none⟩ = some (.int .i64 x.to) ∧ W.cell? ⟨b', off' + m * 4 + 2, none⟩ = some (.int .i64 x.at') ∧ W.cell? ⟨b', off' + m * 4 + 3, none⟩ = some (.string x.ty))) := fun W hW => by
        have kp1 := rangeAt_same (Same.below hW) (Nat.zero_le _) (show b < wr.heap.size by have := hhH.out.1; omega) hr1
        have kp2 := rangeAt_same (Same.below hW) (Nat.zero_le _) (show b' < wr.heap.size by have := hhH.out.2; omega) hr2
        exact ⟨hW, kp1 0 _ rfl, kp1 1 _ rfl, kp1 2 _ rfl, kp1 3 _ rfl, kp2 0 _ rfl, kp2 1 _ rfl, kp2 2 _ rfl, kp2 3 _ rfl⟩
      clear hr1 hr2 hl1 hl2 hsz hb1 hb2 hx
      have hS0 := hmk.out wr (Below.refl _ _)
      go_wp2
      go_region_held3 (fun W => Below wr.heap.size wr W ∧ W.cell? ⟨b, off + m * 4, none⟩ = some (.int .i64 x.fr) ∧ W.cell? ⟨b, off + m * 4 + 1, none⟩ = some (.int .i64 x.to) ∧ W.cell? ⟨b, off + m * 4 + 2, none⟩ = some (.int .i64 x.at') ∧ W.cell? ⟨b, off + m * 4 + 3, none⟩ = some (.string x.ty) ∧ W.cell? ⟨b', off' + m * 4, none⟩ = some (.int .i64 x.fr) ∧ W.cell? ⟨b', off' + m * 4 + 1, none⟩ = some (.int .i64 x.to) ∧ W.cell? ⟨b', off' + m * 4 + 2, none⟩ = some (.int .i64 x.at') ∧ W.cell? ⟨b', off' + m * 4 + 3, none⟩ = some (.string x.ty)) (first | assumption | exact hmk.out _ (Below.drew (And.left (by assumption))) | exact hmk.out _ (below_on (And.left (by assumption)) (by assumption))) (first | (go_at_call 120; refine (hcH.out _ (by first | exact Below.refl _ _ | assumption | exact And.left (by assumption))).mono ?_; rintro e w2 ⟨rfl, hb2⟩))
      go_wp2
      go_roundw
      case rel => exact ⟨m + 1, by omega, by go_num, below_on hB.out (by first | assumption | exact And.left (by assumption))⟩
      case measure => simp [intOf]; omega
    · go_wp2
      go_ret
      exact ⟨rfl, hB.out⟩

set_option maxRecDepth 1000000 in
set_option maxHeartbeats 1000000 in
theorem eqFrameS_calls (u v : Value) (xs : List FrameL) (w : World) (lo1 hi1 lo2 hi2 : Nat) (h1 : hi1 ≤ w.heap.size) (h2 : hi2 ≤ w.heap.size) (hu : ListAt FrameR 3 true lo1 hi1 w u xs) (hv : ListAt FrameR 3 true lo2 hi2 w v xs) (hn : xs.length ≤ 1048576) (hel : ∀ x ∈ xs, ElemEq 121 3 FrameR x) :
    Calls Tryz.prog 99 #[u, v] w fun e w' => e = .returned (.bool true) ∧ Below w.heap.size w w' := by
  obtain ⟨a, c, rfl⟩ := hu.form
  obtain ⟨a2, c2, rfl⟩ := hv.form
  have helH : Hid (∀ x ∈ xs, ElemEq 121 3 FrameR x) := hel
  have huH : Hid (∀ wr, Below w.heap.size w wr → ListAt FrameR 3 true lo1 hi1 wr (.slice a xs.length c) xs) := fun wr hw => hu.kept FrameR.stable (Nat.le_refl _) (Nat.le_refl _) ((Same.below hw).mono (Nat.zero_le _) h1)
  have hvH : Hid (∀ wr, Below w.heap.size w wr → ListAt FrameR 3 true lo2 hi2 wr (.slice a2 xs.length c2) xs) := fun wr hw => hv.kept FrameR.stable (Nat.le_refl _) (Nat.le_refl _) ((Same.below hw).mono (Nat.zero_le _) h2)
  have hhH : Hid (hi1 ≤ w.heap.size ∧ hi2 ≤ w.heap.size) := ⟨h1, h2⟩
  clear hu hv hel h1 h2
  go_enter Tryz.func99, Tryz.ntmps99
  go_wp2
  go_loopw [5] (fun i wr => ∃ m : Nat, m ≤ xs.length ∧ i = .int .i64 m ∧ Hid (Below w.heap.size w wr)) (fun i _ => xs.length - (intOf i).toNat)
  case atStart => exact ⟨0, Nat.zero_le _, rfl, Below.refl _ _⟩
  case round =>
    obtain ⟨m, hm, rfl, hB⟩ := hrel
    by_cases hlt : m < xs.length
    · obtain ⟨b, off, r1, rfl, hb1, hl1, hr1, hx1⟩ := (huH.out wr hB.out).at m hlt
      obtain ⟨b', off', r2, rfl, hb2, hl2, hr2, hx2⟩ := (hvH.out wr hB.out).at m hlt
      have hlt' : (m : Int) < (xs.length : Int) := by omega
      have hsz := hB.out.size
      have hcH : Hid (∀ W, Below wr.heap.size wr W → Calls Tryz.prog 121 #[.agg r1.toArray, .agg r2.toArray] W fun e w' => e = .returned (.bool true) ∧ Below W.heap.size W w') := fun W hW =>
        helH.out xs[m] (List.getElem_mem hlt) W r1 r2 lo1 hi1 lo2 hi2 (by have := hW.size; have := hhH.out.1; omega) (by have := hW.size; have := hhH.out.2; omega)
          (FrameR.stable _ _ _ _ _ _ _ _ _ hx1 (Nat.le_refl _) (Nat.le_refl _) ((Same.below hW).mono (Nat.zero_le _) (by have := hhH.out.1; omega)))
          (FrameR.stable _ _ _ _ _ _ _ _ _ hx2 (Nat.le_refl _) (Nat.le_refl _) ((Same.below hW).mono (Nat.zero_le _) (by have := hhH.out.2; omega))) hl1 hl2
      obtain ⟨x, hx⟩ : ∃ x, x = xs[m] := ⟨_, rfl⟩
      rw [← hx] at hx1 hx2
      obtain ⟨p1, q1, rfl, -⟩ := hx1
      obtain ⟨p2, q2, rfl, -⟩ := hx2
      have hmk : Hid (∀ W, Below wr.heap.size wr W → (Below wr.heap.size wr W ∧ W.cell? ⟨b, off + m * 3, none⟩ = some (.int .i64 x.at') ∧ W.cell? ⟨b, off + m * 3 + 1, none⟩ = some (p1) ∧ W.cell? ⟨b, off + m * 3 + 2, none⟩ = some (q1) ∧ W.cell? ⟨b', off' + m * 3, none⟩ = some (.int .i64 x.at') ∧ W.cell? ⟨b', off' + m * 3 + 1, none⟩ = some (p2) ∧ W.cell? ⟨b', off' + m * 3 + 2, none⟩ = some (q2))) := fun W hW => by
        have kp1 := rangeAt_same (Same.below hW) (Nat.zero_le _) (show b < wr.heap.size by have := hhH.out.1; omega) hr1
        have kp2 := rangeAt_same (Same.below hW) (Nat.zero_le _) (show b' < wr.heap.size by have := hhH.out.2; omega) hr2
        exact ⟨hW, kp1 0 _ rfl, kp1 1 _ rfl, kp1 2 _ rfl, kp2 0 _ rfl, kp2 1 _ rfl, kp2 2 _ rfl⟩
      clear hr1 hr2 hl1 hl2 hsz hb1 hb2 hx
      have hS0 := hmk.out wr (Below.refl _ _)
      go_wp2
      go_region_held3 (fun W => Below wr.heap.size wr W ∧ W.cell? ⟨b, off + m * 3, none⟩ = some (.int .i64 x.at') ∧ W.cell? ⟨b, off + m * 3 + 1, none⟩ = some (p1) ∧ W.cell? ⟨b, off + m * 3 + 2, none⟩ = some (q1) ∧ W.cell? ⟨b', off' + m * 3, none⟩ = some (.int .i64 x.at') ∧ W.cell? ⟨b', off' + m * 3 + 1, none⟩ = some (p2) ∧ W.cell? ⟨b', off' + m * 3 + 2, none⟩ = some (q2)) (first | assumption | exact hmk.out _ (Below.drew (And.left (by assumption))) | exact hmk.out _ (below_on (And.left (by assumption)) (by assumption))) (first | (go_at_call 121; refine (hcH.out _ (by first | exact Below.refl _ _ | assumption | exact And.left (by assumption))).mono ?_; rintro e w2 ⟨rfl, hb2⟩))
      go_wp2
      go_roundw
      case rel => exact ⟨m + 1, by omega, by go_num, below_on hB.out (by first | assumption | exact And.left (by assumption))⟩
      case measure => simp [intOf]; omega
    · go_wp2
      go_ret
      exact ⟨rfl, hB.out⟩

set_option maxRecDepth 1000000 in
set_option maxHeartbeats 1000000 in
theorem eqLineS_calls (u v : Value) (xs : List LineL) (w : World) (lo1 hi1 lo2 hi2 : Nat) (h1 : hi1 ≤ w.heap.size) (h2 : hi2 ≤ w.heap.size) (hu : ListAt LineR 2 true lo1 hi1 w u xs) (hv : ListAt LineR 2 true lo2 hi2 w v xs) (hn : xs.length ≤ 1048576) (hel : ∀ x ∈ xs, ElemEq 122 2 LineR x) :
    Calls Tryz.prog 100 #[u, v] w fun e w' => e = .returned (.bool true) ∧ Below w.heap.size w w' := by
  obtain ⟨a, c, rfl⟩ := hu.form
  obtain ⟨a2, c2, rfl⟩ := hv.form
  have helH : Hid (∀ x ∈ xs, ElemEq 122 2 LineR x) := hel
  have huH : Hid (∀ wr, Below w.heap.size w wr → ListAt LineR 2 true lo1 hi1 wr (.slice a xs.length c) xs) := fun wr hw => hu.kept LineR.stable (Nat.le_refl _) (Nat.le_refl _) ((Same.below hw).mono (Nat.zero_le _) h1)
  have hvH : Hid (∀ wr, Below w.heap.size w wr → ListAt LineR 2 true lo2 hi2 wr (.slice a2 xs.length c2) xs) := fun wr hw => hv.kept LineR.stable (Nat.le_refl _) (Nat.le_refl _) ((Same.below hw).mono (Nat.zero_le _) h2)
  have hhH : Hid (hi1 ≤ w.heap.size ∧ hi2 ≤ w.heap.size) := ⟨h1, h2⟩
  clear hu hv hel h1 h2
  go_enter Tryz.func100, Tryz.ntmps100
  go_wp2
  go_loopw [5] (fun i wr => ∃ m : Nat, m ≤ xs.length ∧ i = .int .i64 m ∧ Hid (Below w.heap.size w wr)) (fun i _ => xs.length - (intOf i).toNat)
  case atStart => exact ⟨0, Nat.zero_le _, rfl, Below.refl _ _⟩
  case round =>
    obtain ⟨m, hm, rfl, hB⟩ := hrel
    by_cases hlt : m < xs.length
    · obtain ⟨b, off, r1, rfl, hb1, hl1, hr1, hx1⟩ := (huH.out wr hB.out).at m hlt
      obtain ⟨b', off', r2, rfl, hb2, hl2, hr2, hx2⟩ := (hvH.out wr hB.out).at m hlt
      have hlt' : (m : Int) < (xs.length : Int) := by omega
      have hsz := hB.out.size
      have hcH : Hid (∀ W, Below wr.heap.size wr W → Calls Tryz.prog 122 #[.agg r1.toArray, .agg r2.toArray] W fun e w' => e = .returned (.bool true) ∧ Below W.heap.size W w') := fun W hW =>
        helH.out xs[m] (List.getElem_mem hlt) W r1 r2 lo1 hi1 lo2 hi2 (by have := hW.size; have := hhH.out.1; omega) (by have := hW.size; have := hhH.out.2; omega)
          (LineR.stable _ _ _ _ _ _ _ _ _ hx1 (Nat.le_refl _) (Nat.le_refl _) ((Same.below hW).mono (Nat.zero_le _) (by have := hhH.out.1; omega)))
          (LineR.stable _ _ _ _ _ _ _ _ _ hx2 (Nat.le_refl _) (Nat.le_refl _) ((Same.below hW).mono (Nat.zero_le _) (by have := hhH.out.2; omega))) hl1 hl2
      obtain ⟨x, hx⟩ : ∃ x, x = xs[m] := ⟨_, rfl⟩
      rw [← hx] at hx1 hx2
      obtain rfl : r1 = [.int .i64 x.at', .int .i64 x.n] := hx1
      obtain rfl : r2 = [.int .i64 x.at', .int .i64 x.n] := hx2
      have hmk : Hid (∀ W, Below wr.heap.size wr W → (Below wr.heap.size wr W ∧ W.cell? ⟨b, off + m * 2, none⟩ = some (.int .i64 x.at') ∧ W.cell? ⟨b, off + m * 2 + 1, none⟩ = some (.int .i64 x.n) ∧ W.cell? ⟨b', off' + m * 2, none⟩ = some (.int .i64 x.at') ∧ W.cell? ⟨b', off' + m * 2 + 1, none⟩ = some (.int .i64 x.n))) := fun W hW => by
        have kp1 := rangeAt_same (Same.below hW) (Nat.zero_le _) (show b < wr.heap.size by have := hhH.out.1; omega) hr1
        have kp2 := rangeAt_same (Same.below hW) (Nat.zero_le _) (show b' < wr.heap.size by have := hhH.out.2; omega) hr2
        exact ⟨hW, kp1 0 _ rfl, kp1 1 _ rfl, kp2 0 _ rfl, kp2 1 _ rfl⟩
      clear hr1 hr2 hl1 hl2 hsz hb1 hb2 hx
      have hS0 := hmk.out wr (Below.refl _ _)
      go_wp2
      go_region_held3 (fun W => Below wr.heap.size wr W ∧ W.cell? ⟨b, off + m * 2, none⟩ = some (.int .i64 x.at') ∧ W.cell? ⟨b, off + m * 2 + 1, none⟩ = some (.int .i64 x.n) ∧ W.cell? ⟨b', off' + m * 2, none⟩ = some (.int .i64 x.at') ∧ W.cell? ⟨b', off' + m * 2 + 1, none⟩ = some (.int .i64 x.n)) (first | assumption | exact hmk.out _ (Below.drew (And.left (by assumption))) | exact hmk.out _ (below_on (And.left (by assumption)) (by assumption))) (first | (go_at_call 122; refine (hcH.out _ (by first | exact Below.refl _ _ | assumption | exact And.left (by assumption))).mono ?_; rintro e w2 ⟨rfl, hb2⟩))
      go_wp2
      go_roundw
      case rel => exact ⟨m + 1, by omega, by go_num, below_on hB.out (by first | assumption | exact And.left (by assumption))⟩
      case measure => simp [intOf]; omega
    · go_wp2
      go_ret
      exact ⟨rfl, hB.out⟩

set_option maxRecDepth 1000000 in
set_option maxHeartbeats 4000000 in
theorem eqMeth_calls (x : MethL) (hy : x.small) : ElemEq 76 9 MethR x := by
  intro w r1 r2 lo1 hi1 lo2 hi2 h1 h2 hx1 hx2 hl1 hl2
  obtain ⟨v1_5, v1_6, v1_7, v1_8, rfl, g1_5, g1_6, g1_7, g1_8⟩ := hx1
  obtain ⟨v2_5, v2_6, v2_7, v2_8, rfl, g2_5, g2_6, g2_7, g2_8⟩ := hx2
  have c5 : Hid (∀ W, Below w.heap.size w W → Calls Tryz.prog 97 #[v1_5, v2_5] W fun e w' => e = .returned (.bool true) ∧ Below W.heap.size W w') := fun W hW =>
    eqInsS_calls v1_5 v2_5 x.code W lo1 hi1 lo2 hi2 (Nat.le_trans h1 hW.size) (Nat.le_trans h2 hW.size) (g1_5.kept InsR.stable (Nat.le_refl _) (Nat.le_refl _) ((Same.below hW).mono (Nat.zero_le _) h1)) (g2_5.kept InsR.stable (Nat.le_refl _) (Nat.le_refl _) ((Same.below hW).mono (Nat.zero_le _) h2)) hy.2.2.1.1 (fun y hy1 => eqInsL_calls y (hy.2.2.1.2 y hy1))
  have c6 : Hid (∀ W, Below w.heap.size w W → Calls Tryz.prog 98 #[v1_6, v2_6] W fun e w' => e = .returned (.bool true) ∧ Below W.heap.size W w') := fun W hW =>
    eqHandS_calls v1_6 v2_6 x.hands W lo1 hi1 lo2 hi2 (Nat.le_trans h1 hW.size) (Nat.le_trans h2 hW.size) (g1_6.kept HandR.stable (Nat.le_refl _) (Nat.le_refl _) ((Same.below hW).mono (Nat.zero_le _) h1)) (g2_6.kept HandR.stable (Nat.le_refl _) (Nat.le_refl _) ((Same.below hW).mono (Nat.zero_le _) h2)) hy.2.2.2.1.1 (fun y hy1 => eqHand_calls y)
  have c7 : Hid (∀ W, Below w.heap.size w W → Calls Tryz.prog 99 #[v1_7, v2_7] W fun e w' => e = .returned (.bool true) ∧ Below W.heap.size W w') := fun W hW =>
    eqFrameS_calls v1_7 v2_7 x.frames W lo1 hi1 lo2 hi2 (Nat.le_trans h1 hW.size) (Nat.le_trans h2 hW.size) (g1_7.kept FrameR.stable (Nat.le_refl _) (Nat.le_refl _) ((Same.below hW).mono (Nat.zero_le _) h1)) (g2_7.kept FrameR.stable (Nat.le_refl _) (Nat.le_refl _) ((Same.below hW).mono (Nat.zero_le _) h2)) hy.2.2.2.2.1.1 (fun y hy1 => eqFrame_calls y (hy.2.2.2.2.1.2 y hy1))
  have c8 : Hid (∀ W, Below w.heap.size w W → Calls Tryz.prog 100 #[v1_8, v2_8] W fun e w' => e = .returned (.bool true) ∧ Below W.heap.size W w') := fun W hW =>
    eqLineS_calls v1_8 v2_8 x.lines W lo1 hi1 lo2 hi2 (Nat.le_trans h1 hW.size) (Nat.le_trans h2 hW.size) (g1_8.kept LineR.stable (Nat.le_refl _) (Nat.le_refl _) ((Same.below hW).mono (Nat.zero_le _) h1)) (g2_8.kept LineR.stable (Nat.le_refl _) (Nat.le_refl _) ((Same.below hW).mono (Nat.zero_le _) h2)) hy.2.2.2.2.2 (fun y hy1 => eqLine_calls y)
  obtain ⟨a1_5, k1_5, rfl⟩ := g1_5.form
  obtain ⟨a2_5, k2_5, rfl⟩ := g2_5.form
  obtain ⟨a1_6, k1_6, rfl⟩ := g1_6.form
  obtain ⟨a2_6, k2_6, rfl⟩ := g2_6.form
  obtain ⟨a1_7, k1_7, rfl⟩ := g1_7.form
  obtain ⟨a2_7, k2_7, rfl⟩ := g2_7.form
  obtain ⟨a1_8, k1_8, rfl⟩ := g1_8.form
  obtain ⟨a2_8, k2_8, rfl⟩ := g2_8.form
  have b0 : (x.name.toList != x.name.toList) = false := by simp
  have b1 : (x.sig.toList != x.sig.toList) = false := by simp
  have b2 : (x.flags != x.flags) = false := by simp
  have b3 : (x.stack != x.stack) = false := by simp
  have b4 : (x.locals != x.locals) = false := by simp
  clear hl1 hl2 h1 h2 g1_5 g2_5 g1_6 g2_6 g1_7 g2_7 g1_8 g2_8
  go_enter Tryz.func76, Tryz.ntmps76
  go_wp2_with fail
  obtain ⟨W0, hW0⟩ : ∃ W : World, W = (w.alloc (.cells #[.string x.name, .string x.sig, .int .i64 x.flags, .int .i64 x.stack, .int .i64 x.locals, .slice a1_5 x.code.length k1_5, .slice a1_6 x.hands.length k1_6, .slice a1_7 x.frames.length k1_7, .slice a1_8 x.lines.length k1_8] 79)).alloc (.cells #[.string x.name, .string x.sig, .int .i64 x.flags, .int .i64 x.stack, .int .i64 x.locals, .slice a2_5 x.code.length k2_5, .slice a2_6 x.hands.length k2_6, .slice a2_7 x.frames.length k2_7, .slice a2_8 x.lines.length k2_8] 79) := ⟨_, rfl⟩
  rw [← hW0]
  have r0 : Hid (Rec2 w W0 [.string x.name, .string x.sig, .int .i64 x.flags, .int .i64 x.stack, .int .i64 x.locals, .slice a1_5 x.code.length k1_5, .slice a1_6 x.hands.length k1_6, .slice a1_7 x.frames.length k1_7, .slice a1_8 x.lines.length k1_8] [.string x.name, .string x.sig, .int .i64 x.flags, .int .i64 x.stack, .int .i64 x.locals, .slice a2_5 x.code.length k2_5, .slice a2_6 x.hands.length k2_6, .slice a2_7 x.frames.length k2_7, .slice a2_8 x.lines.length k2_8]) := Rec2.start hW0
  clear hW0
  refine (c5.out W0 r0.out.hb).mono ?_
  rintro e w1 ⟨rfl, hb1⟩
  have r1 : Hid (Rec2 w w1 [.string x.name, .string x.sig, .int .i64 x.flags, .int .i64 x.stack, .int .i64 x.locals, .slice a1_5 x.code.length k1_5, .slice a1_6 x.hands.length k1_6, .slice a1_7 x.frames.length k1_7, .slice a1_8 x.lines.length k1_8] [.string x.name, .string x.sig, .int .i64 x.flags, .int .i64 x.stack, .int .i64 x.locals, .slice a2_5 x.code.length k2_5, .slice a2_6 x.hands.length k2_6, .slice a2_7 x.frames.length k2_7, .slice a2_8 x.lines.length k2_8]) := r0.out.call hb1
  have y1_6 := r1.out.cell1 6 _ rfl
  have z1_6 := r1.out.cell2 6 _ rfl
  have y1_7 := r1.out.cell1 7 _ rfl
  have z1_7 := r1.out.cell2 7 _ rfl
  have y1_8 := r1.out.cell1 8 _ rfl
  have z1_8 := r1.out.cell2 8 _ rfl
  clear hb1
  go_wp2_with fail
  clear y1_6 z1_6
  clear y1_7 z1_7
  clear y1_8 z1_8
  refine (c6.out w1 r1.out.hb).mono ?_
  rintro e w2 ⟨rfl, hb2⟩
  have r2 : Hid (Rec2 w w2 [.string x.name, .string x.sig, .int .i64 x.flags, .int .i64 x.stack, .int .i64 x.locals, .slice a1_5 x.code.length k1_5, .slice a1_6 x.hands.length k1_6, .slice a1_7 x.frames.length k1_7, .slice a1_8 x.lines.length k1_8] [.string x.name, .string x.sig, .int .i64 x.flags, .int .i64 x.stack, .int .i64 x.locals, .slice a2_5 x.code.length k2_5, .slice a2_6 x.hands.length k2_6, .slice a2_7 x.frames.length k2_7, .slice a2_8 x.lines.length k2_8]) := r1.out.call hb2
  have y2_7 := r2.out.cell1 7 _ rfl
  have z2_7 := r2.out.cell2 7 _ rfl
  have y2_8 := r2.out.cell1 8 _ rfl
  have z2_8 := r2.out.cell2 8 _ rfl
  clear hb2
  go_wp2_with fail
  clear y2_7 z2_7
  clear y2_8 z2_8
  refine (c7.out w2 r2.out.hb).mono ?_
  rintro e w3 ⟨rfl, hb3⟩
  have r3 : Hid (Rec2 w w3 [.string x.name, .string x.sig, .int .i64 x.flags, .int .i64 x.stack, .int .i64 x.locals, .slice a1_5 x.code.length k1_5, .slice a1_6 x.hands.length k1_6, .slice a1_7 x.frames.length k1_7, .slice a1_8 x.lines.length k1_8] [.string x.name, .string x.sig, .int .i64 x.flags, .int .i64 x.stack, .int .i64 x.locals, .slice a2_5 x.code.length k2_5, .slice a2_6 x.hands.length k2_6, .slice a2_7 x.frames.length k2_7, .slice a2_8 x.lines.length k2_8]) := r2.out.call hb3
  have y3_8 := r3.out.cell1 8 _ rfl
  have z3_8 := r3.out.cell2 8 _ rfl
  clear hb3
  go_wp2_with fail
  clear y3_8 z3_8
  refine (c8.out w3 r3.out.hb).mono ?_
  rintro e w4 ⟨rfl, hb4⟩
  have r4 : Hid (Rec2 w w4 [.string x.name, .string x.sig, .int .i64 x.flags, .int .i64 x.stack, .int .i64 x.locals, .slice a1_5 x.code.length k1_5, .slice a1_6 x.hands.length k1_6, .slice a1_7 x.frames.length k1_7, .slice a1_8 x.lines.length k1_8] [.string x.name, .string x.sig, .int .i64 x.flags, .int .i64 x.stack, .int .i64 x.locals, .slice a2_5 x.code.length k2_5, .slice a2_6 x.hands.length k2_6, .slice a2_7 x.frames.length k2_7, .slice a2_8 x.lines.length k2_8]) := r3.out.call hb4
  clear hb4
  go_wp2
  go_ret
  exact ⟨rfl, r4.out.hb⟩
end Go.Proofs.YthbledmeghkfpaaGreatDoor
