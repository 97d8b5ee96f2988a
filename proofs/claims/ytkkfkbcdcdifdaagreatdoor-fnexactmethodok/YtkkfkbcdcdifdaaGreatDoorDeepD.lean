/- Two records that read alike are found equal. -/
import Derived.Test.YtkkfkbcdcdifdaaGreatDoorDeepC
import Derived.Deep.RegionHeld3
import Derived.Test.YtkkfkbcdcdifdaaGreatDoorSpB
namespace Go.Proofs.YtkkfkbcdcdifdaaGreatDoor
set_option linter.unusedVariables false
open Go.ChangeShapes Go.WideShapes Go.ChangeAt Go.RowKit

theorem below_on {w W w' : World} (h : Below w.heap.size w W) (h2 : Below W.heap.size W w') : Below w.heap.size w w' := h.trans (h2.mono h.size)
/-- What holding one element against another says. -/
def ElemEq {α : Type} (f k : Nat) (R : Rd α) (x : α) : Prop := ∀ (W : World) (r1 r2 : List Value) (lo1 hi1 lo2 hi2 : Nat), hi1 ≤ W.heap.size → hi2 ≤ W.heap.size → R true lo1 hi1 W r1 x → R true lo2 hi2 W r2 x → r1.length = k → r2.length = k → Calls Tryz.prog f #[.agg r1.toArray, .agg r2.toArray] W fun e w' => e = .returned (.bool true) ∧ Below W.heap.size W w'

theorem below_2 (w : World) (a b : Obj) : Below w.heap.size w ((w.alloc a).alloc b) := ((Below.refl _ _).alloc (Nat.le_refl _) _).alloc (by simp) _
theorem below_drewN {B : Nat} {w w' : World} (h : Below B w w') (n : Nat) : Below B w (w'.drewN n) := by
  induction n with
  | zero => exact h
  | succ n ih => exact ih.drew

theorem ListAt.tab {lo hi : Nat} {w : World} {v : Value} {zs : List Int} (h : ListAt IntR 1 true lo hi w v zs) (hh : hi ≤ w.heap.size) : Tab w v zs := by
  rcases h with ⟨h, _⟩ | ⟨b, off, c, hv, hlo, hhi, ho, hc⟩
  · cases h
  · have h0 := ho rfl
    subst h0
    refine .inr ⟨b, c, hv, by omega, fun j hj => ?_⟩
    obtain ⟨row, hl, hr, hx⟩ := hc j hj
    have : row = [.int .i64 zs[j]] := hx
    simpa using hr 0 (.int .i64 zs[j]) (by rw [this]; rfl)
theorem ListAt.strAt {own : Bool} {lo hi : Nat} {w : World} {a : Option Addr} {n c : Nat} {ss : List ByteArray} (h : ListAt StrR 1 own lo hi w (.slice a n c) ss) (j : Nat) (hj : j < ss.length) : ∃ b off, a = some ⟨b, off, none⟩ ∧ w.cell? ⟨b, off + j, none⟩ = some (.string ss[j]) := by
  obtain ⟨b, off, row, h1, _, hl, hr, hx⟩ := h.at j hj
  have : row = [.string ss[j]] := hx
  exact ⟨b, off, h1, by simpa using hr 0 (.string ss[j]) (by rw [this]; rfl)⟩

set_option maxRecDepth 1000000 in
set_option maxHeartbeats 1000000 in
theorem eqStrs_calls (u v : Value) (xs : List ByteArray) (w : World) (o1 o2 : Bool) (lo1 hi1 lo2 hi2 : Nat) (hu : ListAt StrR 1 o1 lo1 hi1 w u xs) (hv : ListAt StrR 1 o2 lo2 hi2 w v xs) (hx : xs.length ≤ 1048576) :
    Calls Tryz.prog 57 #[u, v] w fun e w' => e = .returned (.bool true) ∧ ∃ n, w' = w.drewN n := by
  obtain ⟨a, c, rfl⟩ := hu.form
  obtain ⟨a2, c2, rfl⟩ := hv.form
  have cu : Hid (∀ k (h : k < xs.length), ∃ b off, a = some ⟨b, off, none⟩ ∧ w.cell? ⟨b, off + k, none⟩ = some (.string xs[k])) := fun k h => hu.strAt k h
  have cv : Hid (∀ k (h : k < xs.length), ∃ b off, a2 = some ⟨b, off, none⟩ ∧ w.cell? ⟨b, off + k, none⟩ = some (.string xs[k])) := fun k h => hv.strAt k h
  clear hu hv
  go_enter Tryz.func57, Tryz.ntmps57
  go_wp2
  go_loopw [5] (fun i wr => ∃ k n : Nat, k ≤ xs.length ∧ i = .int .i64 k ∧ wr = w.drewN n) (fun i _ => xs.length - (intOf i).toNat)
  case atStart => exact ⟨0, 0, Nat.zero_le _, rfl, rfl⟩
  case round =>
    obtain ⟨k, n, hk, rfl, rfl⟩ := hrel
    by_cases hlt : k < xs.length
    · obtain ⟨b, off, rfl, hcell⟩ := cu.out k hlt
      obtain ⟨b2, off2, rfl, hcell2⟩ := cv.out k hlt
      have hlt' : (k : Int) < (xs.length : Int) := by omega
      obtain ⟨s, hs⟩ : ∃ s, s = xs[k] := ⟨_, rfl⟩
      rw [← hs] at hcell hcell2
      have hss : (s.toList != s.toList) = false := by simp
      clear hs
      go_wp2
      go_quiet (fail)
      go_wp2
      go_roundw
      case rel => exact ⟨k + 1, _, by omega, by go_num, rfl⟩
      case measure => simp [intOf]; omega
    · go_wp2
      go_ret
      exact ⟨rfl, _, rfl⟩

set_option maxRecDepth 1000000 in
set_option maxHeartbeats 1000000 in
theorem eqHand_calls (x : HandL) : ElemEq 82 4 HandR x := by
  intro w r1 r2 lo1 hi1 lo2 hi2 h1 h2 hx1 hx2 hl1 hl2
  obtain rfl : r1 = [.int .i64 x.fr, .int .i64 x.to, .int .i64 x.at', .string x.ty] := hx1
  obtain rfl : r2 = [.int .i64 x.fr, .int .i64 x.to, .int .i64 x.at', .string x.ty] := hx2
  have b0 : (x.fr != x.fr) = false := by simp
  have b1 : (x.to != x.to) = false := by simp
  have b2 : (x.at' != x.at') = false := by simp
  have b3 : (x.ty.toList != x.ty.toList) = false := by simp
  clear hl1 hl2 h1 h2
  go_enter Tryz.func82, Tryz.ntmps82
  go_wp2
  go_ret
  exact ⟨rfl, below_2 _ _ _⟩

set_option maxRecDepth 1000000 in
set_option maxHeartbeats 1000000 in
theorem eqLine_calls (x : LineL) : ElemEq 84 2 LineR x := by
  intro w r1 r2 lo1 hi1 lo2 hi2 h1 h2 hx1 hx2 hl1 hl2
  obtain rfl : r1 = [.int .i64 x.at', .int .i64 x.n] := hx1
  obtain rfl : r2 = [.int .i64 x.at', .int .i64 x.n] := hx2
  have b0 : (x.at' != x.at') = false := by simp
  have b1 : (x.n != x.n) = false := by simp
  clear hl1 hl2 h1 h2
  go_enter Tryz.func84, Tryz.ntmps84
  go_wp2
  go_ret
  exact ⟨rfl, below_2 _ _ _⟩

set_option maxRecDepth 1000000 in
set_option maxHeartbeats 1000000 in
theorem eqFrame_calls (x : FrameL) (hy : x.small) : ElemEq 83 3 FrameR x := by
  intro w r1 r2 lo1 hi1 lo2 hi2 h1 h2 hx1 hx2 hl1 hl2
  obtain ⟨p1, q1, rfl, hp1, hq1⟩ := hx1
  obtain ⟨p2, q2, rfl, hp2, hq2⟩ := hx2
  have cp : Hid (∀ W, Below w.heap.size w W → Calls Tryz.prog 57 #[p1, p2] W fun e w' => e = .returned (.bool true) ∧ ∃ n, w' = W.drewN n) := fun W hW =>
    eqStrs_calls p1 p2 x.locs W true true lo1 hi1 lo2 hi2 (hp1.kept StrR.stable (Nat.le_refl _) (Nat.le_refl _) ((Same.below hW).mono (Nat.zero_le _) h1)) (hp2.kept StrR.stable (Nat.le_refl _) (Nat.le_refl _) ((Same.below hW).mono (Nat.zero_le _) h2)) hy.1
  have cq : Hid (∀ W, Below w.heap.size w W → Calls Tryz.prog 57 #[q1, q2] W fun e w' => e = .returned (.bool true) ∧ ∃ n, w' = W.drewN n) := fun W hW =>
    eqStrs_calls q1 q2 x.stk W true true lo1 hi1 lo2 hi2 (hq1.kept StrR.stable (Nat.le_refl _) (Nat.le_refl _) ((Same.below hW).mono (Nat.zero_le _) h1)) (hq2.kept StrR.stable (Nat.le_refl _) (Nat.le_refl _) ((Same.below hW).mono (Nat.zero_le _) h2)) hy.2.1
  obtain ⟨a1, c1, rfl⟩ := hp1.form
  obtain ⟨a2, c2, rfl⟩ := hp2.form
  obtain ⟨a3, c3, rfl⟩ := hq1.form
  obtain ⟨a4, c4, rfl⟩ := hq2.form
  have b0 : (x.at' != x.at') = false := by simp
  clear hp1 hp2 hq1 hq2 hl1 hl2 h1 h2 hy
  have cc : Hid (∀ u v W, Below w.heap.size w W → ((u = Value.slice a1 x.locs.length c1 ∧ v = Value.slice a2 x.locs.length c2) ∨ (u = Value.slice a3 x.stk.length c3 ∧ v = Value.slice a4 x.stk.length c4)) → Calls Tryz.prog 57 #[u, v] W fun e w' => e = .returned (.bool true) ∧ ∃ n, w' = W.drewN n) := fun u v W hW h => by
    rcases h with ⟨rfl, rfl⟩ | ⟨rfl, rfl⟩
    · exact cp.out W hW
    · exact cq.out W hW
  clear cp cq
  go_enter Tryz.func83, Tryz.ntmps83
  go_wp2_with (go_at_call 57; refine (cc.out _ _ _ (by first | exact below_2 _ _ _ | exact below_drewN (below_2 _ _ _) _) (by first | exact .inl ⟨rfl, rfl⟩ | exact .inr ⟨rfl, rfl⟩)).mono ?_; rintro e w1 ⟨rfl, nq, rfl⟩)
  go_ret
  exact ⟨rfl, by first | exact below_drewN (below_drewN (below_2 _ _ _) _) _ | exact below_drewN (below_2 _ _ _) _⟩

set_option maxRecDepth 1000000 in
set_option maxHeartbeats 4000000 in
theorem eqInsL_calls (x : InsL) (hy : x.small) : ElemEq 81 9 InsR x := by
  intro w r1 r2 lo1 hi1 lo2 hi2 h1 h2 hx1 hx2 hl1 hl2
  obtain ⟨p1, rfl, hp1⟩ := hx1
  obtain ⟨p2, rfl, hp2⟩ := hx2
  have cp : Hid (∀ W, Below w.heap.size w W → Calls Tryz.prog 126 #[p1, p2] W fun e w' => e = .returned (.bool true) ∧ ∃ n, w' = W.drewN n) := fun W hW => by
    have := eqInts_calls p1 p2 x.zs x.zs W ((hp1.kept IntR.stable (Nat.le_refl _) (Nat.le_refl _) ((Same.below hW).mono (Nat.zero_le _) h1)).tab (Nat.le_trans h1 hW.size)) ((hp2.kept IntR.stable (Nat.le_refl _) (Nat.le_refl _) ((Same.below hW).mono (Nat.zero_le _) h2)).tab (Nat.le_trans h2 hW.size)) hy.2.2.2.2 hy.2.2.2.2
    rwa [show (x.zs == x.zs) = true from by simp] at this
  obtain ⟨a1, c1, rfl⟩ := hp1.form
  obtain ⟨a2, c2, rfl⟩ := hp2.form
  have b1 : (x.o != x.o) = false := by simp
  have b2 : (x.k != x.k) = false := by simp
  have b3 : (x.a != x.a) = false := by simp
  have b4 : (x.b != x.b) = false := by simp
  have b5 : (x.T.toList != x.T.toList) = false := by simp
  have b6 : (x.C.toList != x.C.toList) = false := by simp
  have b7 : (x.N.toList != x.N.toList) = false := by simp
  have b8 : (x.Y.toList != x.Y.toList) = false := by simp
  clear hp1 hp2 hl1 hl2 h1 h2 hy
  go_enter Tryz.func81, Tryz.ntmps81
  go_wp2_with (go_at_call 126; refine (cp.out _ (below_2 _ _ _)).mono ?_; rintro e w1 ⟨rfl, nq, rfl⟩)
  go_ret
  exact ⟨rfl, below_drewN (below_2 _ _ _) _⟩
end Go.Proofs.YtkkfkbcdcdifdaaGreatDoor
