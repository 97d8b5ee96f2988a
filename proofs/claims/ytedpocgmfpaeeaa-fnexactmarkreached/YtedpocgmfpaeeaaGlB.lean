/- Numbers compared, marked, looked at; heaps compared. -/
import Derived.Test.YtedpocgmfpaeeaaGlA
namespace Go.Proofs.Ytedpocgmfpaeeaa
set_option linter.unusedVariables false
open Go.ChangeShapes Go.WideShapes Go.ChangeAt Go.RowKit

/-- What may have been written within the blocks from lo up to hi: all else is as it was, and what is there is there still. -/
def Touch (lo hi : Nat) (w w' : World) : Prop := w.heap.size ≤ w'.heap.size ∧ Below lo w w' ∧ ∀ p : Addr, p.block < w.heap.size → (p.block < lo ∨ hi ≤ p.block → w'.cell? p = w.cell? p) ∧ (w'.cell? p).isSome = (w.cell? p).isSome ∧ w'.frozen? p = w.frozen? p
theorem Touch.refl (lo hi : Nat) (w : World) : Touch lo hi w w := ⟨Nat.le_refl _, Below.refl _ _, fun p hp => ⟨fun _ => rfl, rfl, rfl⟩⟩
theorem Touch.trans {lo hi : Nat} {a b c : World} (h : Touch lo hi a b) (k : Touch lo hi b c) : Touch lo hi a c := ⟨Nat.le_trans h.1 k.1, h.2.1.trans k.2.1, fun p hp => by
  obtain ⟨h1, h2, h3⟩ := h.2.2 p hp
  obtain ⟨k1, k2, k3⟩ := k.2.2 p (Nat.lt_of_lt_of_le hp h.1)
  exact ⟨fun q => (k1 q).trans (h1 q), k2.trans h2, k3.trans h3⟩⟩
theorem Touch.mono {lo hi lo' hi' : Nat} {w w' : World} (h : Touch lo hi w w') (h1 : lo' ≤ lo) (h2 : hi ≤ hi') : Touch lo' hi' w w' := ⟨h.1, h.2.1.mono h1, fun p hp => by
  obtain ⟨a, b, c⟩ := h.2.2 p hp
  exact ⟨fun q => a (by omega), b, c⟩⟩
theorem Touch.below {lo hi : Nat} {w w' : World} (h : Below w.heap.size w w') (hl : lo ≤ w.heap.size) : Touch lo hi w w' := ⟨h.size, h.mono hl, fun p hp => ⟨fun _ => h.cell hp, by rw [h.cell hp], h.frozen hp⟩⟩
theorem Touch.setCell {lo hi : Nat} (w : World) (b o : Nat) (v : Value) (h1 : lo ≤ b) (h2 : b < hi) {q : Value} (hq : w.cell? ⟨b, o, none⟩ = some q) : Touch lo hi w (w.setCell ⟨b, o, none⟩ v) := ⟨by simp [World.setCell], (Below.refl _ _).setCell (p := ⟨b, o, none⟩) h1 v, fun p hp => by
  by_cases e : (⟨b, o, none⟩ : Addr) = p
  · subst e
    exact ⟨fun h => by rcases h with h | h <;> simp at h <;> omega, by rw [World.cell?_setCell_same _ _ _ hq, hq]; rfl, by simp⟩
  · have e2 := World.cell?_setCell_other w ⟨b, o, none⟩ p v e
    exact ⟨fun _ => e2, by rw [e2], by simp⟩⟩
theorem Touch.same {lo hi a b : Nat} {w w' : World} (h : Touch lo hi w w') (hb : b ≤ w.heap.size) (hd : b ≤ lo ∨ hi ≤ a) : Same a b w w' := fun p h1 h2 => by
  obtain ⟨x, y, z⟩ := h.2.2 p (by omega)
  exact ⟨x (by omega), z⟩
theorem Touch.there {lo hi : Nat} {w w' : World} (h : Touch lo hi w w') {b o n : Nat} (hb : b < w.heap.size) (ht : w.there b o n) : w'.there b o n := fun j hj => by
  obtain ⟨x, y, z⟩ := h.2.2 ⟨b, o + j, none⟩ hb
  rw [y, z]; exact ht j hj

/-! ### Rows of numbers that a call made -/
def IntsAt (lo hi : Nat) (w : World) (v : Value) (zs : List Int) : Prop :=
  (zs = [] ∧ ∃ a c, v = .slice a 0 c) ∨ ∃ b c, v = .slice (some ⟨b, 0, none⟩) zs.length c ∧ lo ≤ b ∧ b < hi ∧ w.there b 0 zs.length ∧ ∀ j (h : j < zs.length), w.cell? ⟨b, j, none⟩ = some (.int .i64 zs[j])
theorem IntsAt.kept {lo hi : Nat} {w w' : World} {v : Value} {zs : List Int} (h : IntsAt lo hi w v zs) (hs : Same lo hi w w') : IntsAt lo hi w' v zs := by
  rcases h with h | ⟨b, c, hv, h1, h2, h3, h4⟩
  · exact .inl h
  · exact .inr ⟨b, c, hv, h1, h2, there_same hs h1 h2 h3, fun j hj => by rw [(hs ⟨b, j, none⟩ h1 h2).1]; exact h4 j hj⟩
theorem IntsAt.mono {lo hi lo' hi' : Nat} {w : World} {v : Value} {zs : List Int} (h : IntsAt lo hi w v zs) (h1 : lo' ≤ lo) (h2 : hi ≤ hi') : IntsAt lo' hi' w v zs := by
  rcases h with h | ⟨b, c, hv, g1, g2, h3, h4⟩
  · exact .inl h
  · exact .inr ⟨b, c, hv, by omega, by omega, h3, h4⟩
theorem IntsAt.form {lo hi : Nat} {w : World} {v : Value} {zs : List Int} (h : IntsAt lo hi w v zs) : ∃ a c, v = .slice a zs.length c := by
  rcases h with ⟨rfl, a, c, rfl⟩ | ⟨b, c, hv, _⟩
  · exact ⟨a, c, rfl⟩
  · exact ⟨_, c, hv⟩
theorem IntsAt.at {lo hi : Nat} {w : World} {a : Option Addr} {n c : Nat} {zs : List Int} (h : IntsAt lo hi w (.slice a n c) zs) (j : Nat) (hj : j < zs.length) : ∃ b, a = some ⟨b, 0, none⟩ ∧ lo ≤ b ∧ b < hi ∧ w.cell? ⟨b, j, none⟩ = some (.int .i64 zs[j]) ∧ w.frozen? ⟨b, j, none⟩ = false := by
  rcases h with ⟨rfl, _⟩ | ⟨b, c', hv, h1, h2, h3, h4⟩
  · simp at hj
  · injection hv with e1
    exact ⟨b, e1, h1, h2, h4 j hj, by have := (h3 j hj).2; simpa using this⟩
theorem ListAt.ints {lo hi : Nat} {w : World} {v : Value} {zs : List Int} (h : ListAt IntR 1 true lo hi w v zs) : IntsAt lo hi w v zs := by
  rcases h with ⟨h, _⟩ | ⟨b, off, c, hv, hlo, hhi, ho, hc⟩
  · cases h
  · obtain ⟨h0, ht, _⟩ := ho rfl
    subst h0
    refine .inr ⟨b, c, hv, hlo, hhi, by simpa using ht, fun j hj => ?_⟩
    obtain ⟨row, hl, hr, hx, _⟩ := hc j hj
    have : row = [.int .i64 zs[j]] := hx
    simpa using hr 0 (.int .i64 zs[j]) (by rw [this]; rfl)
theorem IntsAt.set {lo hi : Nat} {w : World} {b n c : Nat} {zs : List Int} (h : IntsAt lo hi w (.slice (some ⟨b, 0, none⟩) n c) zs) (hn : 0 < zs.length) (i : Nat) (hi' : i < zs.length) (z : Int) : IntsAt lo hi (w.setCell ⟨b, i, none⟩ (.int .i64 z)) (.slice (some ⟨b, 0, none⟩) n c) (zs.set i z) := by
  rcases h with ⟨rfl, _⟩ | ⟨b', c', hv, h1, h2, h3, h4⟩
  · simp at hn
  · injection hv with e1 e2 e3
    injection e1 with e1
    injection e1 with e1
    subst e1
    refine .inr ⟨b, c, by rw [e2]; simp, h1, h2, ?_, fun j hj => ?_⟩
    · simp only [List.length_set]
      rw [← setCells_one]; exact World.there_setCells h3 _ _ _
    · have hj' : j < zs.length := by simpa using hj
      by_cases e : j = i
      · subst e
        rw [World.cell?_setCell_same _ _ _ (h4 j hj')]; simp
      · rw [World.cell?_setCell_other _ _ _ _ (fun e2 => e (by injection e2 with _ e3; exact e3.symm)), h4 j hj']
        rw [List.getElem_set_ne (fun e2 => e e2.symm)]

set_option maxRecDepth 1000000 in
set_option maxHeartbeats 1000000 in
theorem eqInts_calls (u v : Value) (zs : List Int) (w : World) (lo1 hi1 lo2 hi2 : Nat) (hu : IntsAt lo1 hi1 w u zs) (hv : IntsAt lo2 hi2 w v zs) (hn : zs.length ≤ 9223372036854775807) :
    Calls Try.prog 9 #[u, v] w fun e w' => e = .returned (.bool true) ∧ ∃ n, w' = w.drewN n := by
  obtain ⟨a, c, rfl⟩ := hu.form
  obtain ⟨a2, c2, rfl⟩ := hv.form
  have huH : Hid (IntsAt lo1 hi1 w (.slice a zs.length c) zs) := hu
  have hvH : Hid (IntsAt lo2 hi2 w (.slice a2 zs.length c2) zs) := hv
  clear hu hv
  go_enter Try.func9, Try.ntmps9
  go_wp2
  go_loopw [5] (fun i wr => ∃ m n : Nat, m ≤ zs.length ∧ i = .int .i64 m ∧ wr = w.drewN n) (fun i _ => zs.length - (intOf i).toNat)
  case atStart => exact ⟨0, 0, Nat.zero_le _, rfl, rfl⟩
  case round =>
    obtain ⟨m, n, hm, rfl, rfl⟩ := hrel
    by_cases hlt : m < zs.length
    · obtain ⟨b, rfl, _, _, hc1, _⟩ := huH.out.at m hlt
      obtain ⟨b2, rfl, _, _, hc2, _⟩ := hvH.out.at m hlt
      have hlt' : (m : Int) < (zs.length : Int) := by omega
      obtain ⟨z, hz⟩ : ∃ z, z = zs[m] := ⟨_, rfl⟩
      rw [← hz] at hc1 hc2
      have hzz : (z != z) = false := by simp
      clear hz
      go_wp2
      try go_quiet (fail)
      try go_wp2
      go_roundw
      case rel => exact ⟨m + 1, _, by omega, by go_num, rfl⟩
      case measure => simp [intOf]; omega
    · go_wp2
      go_ret
      exact ⟨rfl, _, rfl⟩

/-- k, k + 1 and so on. -/
def iota : Int → Nat → List Int
  | _, 0 => []
  | k, n + 1 => k :: iota (k + 1) n
theorem iota_length (k : Int) (n : Nat) : (iota k n).length = n := by
  induction n generalizing k with
  | zero => rfl
  | succ n ih => simp [iota, ih]
theorem iota_get (k : Int) (n : Nat) (j : Nat) (h : j < (iota k n).length) : (iota k n)[j] = k + j := by
  induction n generalizing k j with
  | zero => simp [iota] at h
  | succ n ih =>
    cases j with
    | zero => simp [iota]
    | succ j =>
      have := ih (k + 1) j (by simpa [iota] using h)
      simp only [iota, List.getElem_cons_succ, this]; omega
theorem IntsAt.iota_of {lo hi : Nat} {w : World} {v : Value} {zs ys : List Int} {k : Int} (h : IntsAt lo hi w v ys) (hl : ys.length = zs.length) (hj : ∀ j (h : j < ys.length), ys[j] = k + j) : IntsAt lo hi w v (iota k zs.length) := by
  have e : ys = iota k zs.length := List.ext_getElem (by rw [iota_length, hl]) (fun j h1 h2 => by rw [hj j h1, iota_get])
  rw [← e]; exact h

set_option maxRecDepth 1000000 in
set_option maxHeartbeats 1000000 in
theorem markInts_calls (v : Value) (zs : List Int) (k : Int) (w : World) (lo hi : Nat) (hh : hi ≤ w.heap.size) (hv : IntsAt lo hi w v zs) (h0 : 0 ≤ k) (hk : k ≤ 4611686018427387903) (hn : zs.length ≤ 4611686018427387903) :
    Calls Try.prog 12 #[v, .int .i64 k] w fun e w' => e = .returned (.int .i64 (k + zs.length)) ∧ Touch lo hi w w' ∧ IntsAt lo hi w' v (iota k zs.length) := by
  obtain ⟨a, c, rfl⟩ := hv.form
  have hvH : Hid (IntsAt lo hi w (.slice a zs.length c) zs) := hv
  have hhH : Hid (hi ≤ w.heap.size) := hh
  clear hv hh
  obtain ⟨ln, hln⟩ : ∃ ln, ln = zs.length := ⟨_, rfl⟩
  have hlnH : Hid (ln = zs.length) := hln
  rw [← hln] at hvH hn ⊢
  clear hln
  go_enter Try.func12, Try.ntmps12
  go_wp2
  go_loopw [1, 5] (fun kv i wr => ∃ (m : Nat) (ys : List Int), m ≤ ln ∧ kv = .int .i64 (k + m) ∧ i = .int .i64 m ∧ Hid (Touch lo hi w wr) ∧ Hid (IntsAt lo hi wr (.slice a ln c) ys) ∧ Hid (ys.length = ln) ∧ Hid (∀ j (h : j < ys.length), j < m → ys[j] = k + j)) (fun _ i _ => ln - (intOf i).toNat)
  case atStart => exact ⟨0, zs, Nat.zero_le _, by simp, rfl, Touch.refl _ _ _, hvH, hlnH.out.symm, fun j _ h => absurd h (by omega)⟩
  case round =>
    obtain ⟨m, ys, hm, rfl, rfl, hT, hI, hL, hJ⟩ := hrel
    by_cases hlt : m < ln
    · have hlt' : (m : Int) < (ln : Int) := by omega
      have hm0 : (0 : Int) ≤ m := by omega
      obtain ⟨b, rfl, hb1, hb2, hcell, hfz⟩ := hI.out.at m (by rw [hL.out]; exact hlt)
      have hn1 : Hid (IntsAt lo hi (wr.setCell ⟨b, m, none⟩ (.int .i64 (k + m))) (.slice (some ⟨b, 0, none⟩) ln c) (ys.set m (k + m))) := hI.out.set (by have := hL.out; omega) m (by rw [hL.out]; exact hlt) _
      have hT1 : Hid (Touch lo hi w (wr.setCell ⟨b, m, none⟩ (.int .i64 (k + m)))) := hT.out.trans (Touch.setCell wr b m _ hb1 hb2 hcell)
      have hJ1 : Hid (∀ j (h : j < (ys.set m (k + m)).length), j < m + 1 → (ys.set m (k + m))[j] = k + j) := fun j h hj => by
        by_cases e : j = m
        · subst e; simp
        · rw [List.getElem_set_ne (fun e2 => e e2.symm)]
          exact hJ.out j (by simpa using h) (by omega)
      have hL1 : Hid ((ys.set m (k + m)).length = ln) := by show _ = _; rw [List.length_set]; exact hL.out
      obtain ⟨y, hcy⟩ : ∃ y, wr.cell? ⟨b, m, none⟩ = some y := ⟨_, hcell⟩
      clear hcell
      clear hT hI hL hJ
      go_wp2
      go_roundw
      case rel => exact ⟨m + 1, ys.set m (k + m), by omega, by go_num, by go_num, hT1, hn1, hL1, hJ1⟩
      case measure => simp [intOf]; omega
    · have hme : m = ln := by omega
      have hfin : Hid (IntsAt lo hi wr (.slice a ln c) (iota k ln)) := by
        have := hI.out.iota_of (k := k) (zs := ys) rfl (fun j h => hJ.out j h (by have := hL.out; omega))
        rw [hL.out] at this; exact this
      go_wp2
      go_ret
      exact ⟨by first | rfl | (rw [hme]; rfl), hT.out, hfin.out⟩

set_option maxRecDepth 1000000 in
set_option maxHeartbeats 1000000 in
theorem heldInts_calls (v : Value) (n : Nat) (k : Int) (w : World) (lo hi : Nat) (hv : IntsAt lo hi w v (iota k n)) (h0 : 0 ≤ k) (hk : k ≤ 4611686018427387903) (hn : n ≤ 4611686018427387903) :
    Calls Try.prog 13 #[v, .int .i64 k] w fun e w' => e = .returned (.int .i64 (k + n)) ∧ w' = w := by
  obtain ⟨a, c, rfl⟩ := hv.form
  rw [iota_length] at hv ⊢
  have hvH : Hid (IntsAt lo hi w (.slice a n c) (iota k n)) := hv
  clear hv
  go_enter Try.func13, Try.ntmps13
  go_wp2
  go_loopw [1, 5] (fun kv i wr => ∃ m : Nat, m ≤ n ∧ kv = .int .i64 (k + m) ∧ i = .int .i64 m ∧ wr = w) (fun _ i _ => n - (intOf i).toNat)
  case atStart => exact ⟨0, Nat.zero_le _, by simp, rfl, rfl⟩
  case round =>
    obtain ⟨m, hm, rfl, rfl, hw⟩ := hrel
    have hw2 := hw.symm
    subst hw2
    by_cases hlt : m < n
    · have hlt' : (m : Int) < (n : Int) := by omega
      have hm0 : (0 : Int) ≤ m := by omega
      obtain ⟨b, rfl, hb1, hb2, hcell, hfz⟩ := hvH.out.at m (by rw [iota_length]; exact hlt)
      rw [iota_get] at hcell
      have hzz : (k + (m : Int) != k + m) = false := by simp
      go_wp2
      go_roundw
      case rel => exact ⟨m + 1, by omega, by go_num, by go_num, by first | trivial | rfl⟩
      case measure => simp [intOf]; omega
    · have hme : m = n := by omega
      go_wp2
      go_ret
      exact ⟨by first | rfl | (rw [hme]; rfl), by first | trivial | rfl⟩

/-- A row of a call's own: k cells an element, what they are not said. -/
def RowAt (k : Nat) (lo hi : Nat) (w : World) (v : Value) (n : Nat) : Prop := ∃ b c, v = .slice (some ⟨b, 0, none⟩) n c ∧ lo ≤ b ∧ b < hi ∧ w.there b 0 (n * k)
theorem ListAt.rowAt {α : Type} {R : Rd α} {k lo hi : Nat} {w : World} {v : Value} {xs : List α} (h : ListAt R k true lo hi w v xs) : RowAt k lo hi w v xs.length := by
  rcases h with ⟨h, _⟩ | ⟨b, off, c, hv, hlo, hhi, ho, hc⟩
  · cases h
  · obtain ⟨h0, ht, _⟩ := ho rfl
    subst h0
    exact ⟨b, c, hv, hlo, hhi, ht⟩
theorem RowAt.touch {k lo hi a b : Nat} {w w' : World} {v : Value} {n : Nat} (h : RowAt k lo hi w v n) (hh : hi ≤ w.heap.size) (ht : Touch a b w w') : RowAt k lo hi w' v n := by
  obtain ⟨g, c, hv, h1, h2, h3⟩ := h
  exact ⟨g, c, hv, h1, h2, ht.there (by omega) h3⟩
theorem there_cell {w : World} {b n : Nat} (h : w.there b 0 n) (j : Nat) (hj : j < n) : (∃ q, w.cell? ⟨b, j, none⟩ = some q) ∧ w.frozen? ⟨b, j, none⟩ = false := by
  have := h j hj
  simp only [Nat.zero_add] at this
  exact ⟨Option.isSome_iff_exists.1 this.1, this.2⟩


theorem drewN_below (W : World) (n : Nat) : Below W.heap.size W (W.drewN n) := below_drewN (Below.refl _ _) n
theorem eqIntL_calls (u v : Value) (xs : List Int) (w : World) (lo1 hi1 lo2 hi2 : Nat) (h1 : hi1 ≤ w.heap.size) (h2 : hi2 ≤ w.heap.size) (hu : ListAt IntR 1 true lo1 hi1 w u xs) (hv : ListAt IntR 1 true lo2 hi2 w v xs) (hn : xs.length ≤ 1048576) :
    Calls Try.prog 9 #[u, v] w fun e w' => e = .returned (.bool true) ∧ Below w.heap.size w w' := (eqInts_calls u v xs w lo1 hi1 lo2 hi2 hu.ints hv.ints (by omega)).mono (by rintro e w' ⟨rfl, n, rfl⟩; exact ⟨rfl, drewN_below _ _⟩)

set_option maxRecDepth 1000000 in
set_option maxHeartbeats 4000000 in
theorem eqGob_calls (x : GobL) (hy : x.small) : ElemEq 44 5 GobR x := by
  intro w r1 r2 lo1 hi1 lo2 hi2 h1 h2 hx1 hx2 hl1 hl2
  obtain ⟨v1_4, rfl, g1_4⟩ := hx1
  obtain ⟨v2_4, rfl, g2_4⟩ := hx2
  have c4 : Hid (∀ W, Below w.heap.size w W → Calls Try.prog 9 #[v1_4, v2_4] W fun e w' => e = .returned (.bool true) ∧ Below W.heap.size W w') := fun W hW =>
    eqIntL_calls v1_4 v2_4 x.flds W lo1 hi1 lo2 hi2 (Nat.le_trans h1 hW.size) (Nat.le_trans h2 hW.size) (g1_4.kept IntR.stable (Nat.le_refl _) (Nat.le_refl _) ((Same.below hW).mono (Nat.zero_le _) h1)) (g2_4.kept IntR.stable (Nat.le_refl _) (Nat.le_refl _) ((Same.below hW).mono (Nat.zero_le _) h2)) hy
  obtain ⟨a1_4, k1_4, rfl⟩ := g1_4.form
  obtain ⟨a2_4, k2_4, rfl⟩ := g2_4.form
  have b0 : (x.id != x.id) = false := by simp
  have b1 : (x.adr != x.adr) = false := by simp
  have b2 : (x.age != x.age) = false := by simp
  have b3 : (x.kind != x.kind) = false := by simp
  clear hl1 hl2 h1 h2 g1_4 g2_4
  go_enter Try.func44, Try.ntmps44
  go_wp2_with fail
  obtain ⟨W0, hW0⟩ : ∃ W : World, W = (w.alloc (.cells #[.int .i64 x.id, .int .i64 x.adr, .int .i64 x.age, .int .i64 x.kind, .slice a1_4 x.flds.length k1_4] 52)).alloc (.cells #[.int .i64 x.id, .int .i64 x.adr, .int .i64 x.age, .int .i64 x.kind, .slice a2_4 x.flds.length k2_4] 52) := ⟨_, rfl⟩
  rw [← hW0]
  have r0 : Hid (Rec2 w W0 [.int .i64 x.id, .int .i64 x.adr, .int .i64 x.age, .int .i64 x.kind, .slice a1_4 x.flds.length k1_4] [.int .i64 x.id, .int .i64 x.adr, .int .i64 x.age, .int .i64 x.kind, .slice a2_4 x.flds.length k2_4]) := Rec2.start hW0
  clear hW0
  refine (c4.out W0 r0.out.hb).mono ?_
  rintro e w1 ⟨rfl, hb1⟩
  have r1 : Hid (Rec2 w w1 [.int .i64 x.id, .int .i64 x.adr, .int .i64 x.age, .int .i64 x.kind, .slice a1_4 x.flds.length k1_4] [.int .i64 x.id, .int .i64 x.adr, .int .i64 x.age, .int .i64 x.kind, .slice a2_4 x.flds.length k2_4]) := r0.out.call hb1
  clear hb1
  go_wp2
  go_ret
  exact ⟨rfl, r1.out.hb⟩

set_option maxRecDepth 1000000 in
set_option maxHeartbeats 1000000 in
theorem eqGobS_calls (u v : Value) (xs : List GobL) (w : World) (lo1 hi1 lo2 hi2 : Nat) (h1 : hi1 ≤ w.heap.size) (h2 : hi2 ≤ w.heap.size) (hu : ListAt GobR 5 true lo1 hi1 w u xs) (hv : ListAt GobR 5 true lo2 hi2 w v xs) (hn : xs.length ≤ 1048576) (hel : ∀ x ∈ xs, ElemEq 44 5 GobR x) :
    Calls Try.prog 30 #[u, v] w fun e w' => e = .returned (.bool true) ∧ Below w.heap.size w w' := by
  obtain ⟨a, c, rfl⟩ := hu.form
  obtain ⟨a2, c2, rfl⟩ := hv.form
  have helH : Hid (∀ x ∈ xs, ElemEq 44 5 GobR x) := hel
  have huH : Hid (∀ wr, Below w.heap.size w wr → ListAt GobR 5 true lo1 hi1 wr (.slice a xs.length c) xs) := fun wr hw => hu.kept GobR.stable (Nat.le_refl _) (Nat.le_refl _) ((Same.below hw).mono (Nat.zero_le _) h1)
  have hvH : Hid (∀ wr, Below w.heap.size w wr → ListAt GobR 5 true lo2 hi2 wr (.slice a2 xs.length c2) xs) := fun wr hw => hv.kept GobR.stable (Nat.le_refl _) (Nat.le_refl _) ((Same.below hw).mono (Nat.zero_le _) h2)
  have hhH : Hid (hi1 ≤ w.heap.size ∧ hi2 ≤ w.heap.size) := ⟨h1, h2⟩
  clear hu hv hel h1 h2
  go_enter Try.func30, Try.ntmps30
  go_wp2
  go_loopw [5] (fun i wr => ∃ m : Nat, m ≤ xs.length ∧ i = .int .i64 m ∧ Hid (Below w.heap.size w wr)) (fun i _ => xs.length - (intOf i).toNat)
  case atStart => exact ⟨0, Nat.zero_le _, rfl, Below.refl _ _⟩
  case round =>
    obtain ⟨m, hm, rfl, hB⟩ := hrel
    by_cases hlt : m < xs.length
    · obtain ⟨b, off, r1, rfl, hb1, hl1, hr1, hx1⟩ := (huH.out wr hB.out).at m hlt
      obtain ⟨b', off', r2, rfl, hb2, hl2, hr2, hx2⟩ := (hvH.out wr hB.out).at m hlt
      have hlt' : (m : Int) < (xs.length : Int) := by omega
      have hsz := hB.out.size
      have hcH : Hid (∀ W, Below wr.heap.size wr W → Calls Try.prog 44 #[.agg r1.toArray, .agg r2.toArray] W fun e w' => e = .returned (.bool true) ∧ Below W.heap.size W w') := fun W hW =>
        helH.out xs[m] (List.getElem_mem hlt) W r1 r2 lo1 hi1 lo2 hi2 (by have := hW.size; have := hhH.out.1; omega) (by have := hW.size; have := hhH.out.2; omega)
          (GobR.stable _ _ _ _ _ _ _ _ _ hx1 (Nat.le_refl _) (Nat.le_refl _) ((Same.below hW).mono (Nat.zero_le _) (by have := hhH.out.1; omega)))
          (GobR.stable _ _ _ _ _ _ _ _ _ hx2 (Nat.le_refl _) (Nat.le_refl _) ((Same.below hW).mono (Nat.zero_le _) (by have := hhH.out.2; omega))) hl1 hl2
      obtain ⟨x, hx⟩ : ∃ x, x = xs[m] := ⟨_, rfl⟩
      rw [← hx] at hx1 hx2
      obtain ⟨p1, rfl, -⟩ := hx1
      obtain ⟨p2, rfl, -⟩ := hx2
      have hmk : Hid (∀ W, Below wr.heap.size wr W → (Below wr.heap.size wr W ∧ W.cell? ⟨b, off + m * 5, none⟩ = some (.int .i64 x.id) ∧ W.cell? ⟨b, off + m * 5 + 1, none⟩ = some (.int .i64 x.adr) ∧ W.cell? ⟨b, off + m * 5 + 2, none⟩ = some (.int .i64 x.age) ∧ W.cell? ⟨b, off + m * 5 + 3, none⟩ = some (.int .i64 x.kind) ∧ W.cell? ⟨b, off + m * 5 + 4, none⟩ = some (p1) ∧ W.cell? ⟨b', off' + m * 5, none⟩ = some (.int .i64 x.id) ∧ W.cell? ⟨b', off' + m * 5 + 1, none⟩ = some (.int .i64 x.adr) ∧ W.cell? ⟨b', off' + m * 5 + 2, none⟩ = some (.int .i64 x.age) ∧ W.cell? ⟨b', off' + m * 5 + 3, none⟩ = some (.int .i64 x.kind) ∧ W.cell? ⟨b', off' + m * 5 + 4, none⟩ = some (p2))) := fun W hW => by
        have kp1 := rangeAt_same (Same.below hW) (Nat.zero_le _) (show b < wr.heap.size by have := hhH.out.1; omega) hr1
        have kp2 := rangeAt_same (Same.below hW) (Nat.zero_le _) (show b' < wr.heap.size by have := hhH.out.2; omega) hr2
        exact ⟨hW, kp1 0 _ rfl, kp1 1 _ rfl, kp1 2 _ rfl, kp1 3 _ rfl, kp1 4 _ rfl, kp2 0 _ rfl, kp2 1 _ rfl, kp2 2 _ rfl, kp2 3 _ rfl, kp2 4 _ rfl⟩
      clear hr1 hr2 hl1 hl2 hsz hb1 hb2 hx
      have hS0 := hmk.out wr (Below.refl _ _)
      go_wp2
      go_region_held3 (fun W => Below wr.heap.size wr W ∧ W.cell? ⟨b, off + m * 5, none⟩ = some (.int .i64 x.id) ∧ W.cell? ⟨b, off + m * 5 + 1, none⟩ = some (.int .i64 x.adr) ∧ W.cell? ⟨b, off + m * 5 + 2, none⟩ = some (.int .i64 x.age) ∧ W.cell? ⟨b, off + m * 5 + 3, none⟩ = some (.int .i64 x.kind) ∧ W.cell? ⟨b, off + m * 5 + 4, none⟩ = some (p1) ∧ W.cell? ⟨b', off' + m * 5, none⟩ = some (.int .i64 x.id) ∧ W.cell? ⟨b', off' + m * 5 + 1, none⟩ = some (.int .i64 x.adr) ∧ W.cell? ⟨b', off' + m * 5 + 2, none⟩ = some (.int .i64 x.age) ∧ W.cell? ⟨b', off' + m * 5 + 3, none⟩ = some (.int .i64 x.kind) ∧ W.cell? ⟨b', off' + m * 5 + 4, none⟩ = some (p2)) (first | assumption | exact hmk.out _ (Below.drew (And.left (by assumption))) | exact hmk.out _ (below_on (And.left (by assumption)) (by assumption))) (first | (go_at_call 44; refine (hcH.out _ (by first | exact Below.refl _ _ | assumption | exact And.left (by assumption))).mono ?_; rintro e w2 ⟨rfl, hb2⟩))
      go_wp2
      go_roundw
      case rel => exact ⟨m + 1, by omega, by go_num, below_on hB.out (by first | assumption | exact And.left (by assumption))⟩
      case measure => simp [intOf]; omega
    · go_wp2
      go_ret
      exact ⟨rfl, hB.out⟩

set_option maxRecDepth 1000000 in
set_option maxHeartbeats 4000000 in
theorem eqGhp_calls (x : GhpL) (hy : x.small) : ElemEq 10 6 GhpR x := by
  intro w r1 r2 lo1 hi1 lo2 hi2 h1 h2 hx1 hx2 hl1 hl2
  obtain ⟨v1_0, v1_1, v1_2, v1_4, v1_5, rfl, g1_0, g1_1, g1_2, g1_4, g1_5⟩ := hx1
  obtain ⟨v2_0, v2_1, v2_2, v2_4, v2_5, rfl, g2_0, g2_1, g2_2, g2_4, g2_5⟩ := hx2
  have c0 : Hid (∀ W, Below w.heap.size w W → Calls Try.prog 30 #[v1_0, v2_0] W fun e w' => e = .returned (.bool true) ∧ Below W.heap.size W w') := fun W hW =>
    eqGobS_calls v1_0 v2_0 x.objs W lo1 hi1 lo2 hi2 (Nat.le_trans h1 hW.size) (Nat.le_trans h2 hW.size) (g1_0.kept GobR.stable (Nat.le_refl _) (Nat.le_refl _) ((Same.below hW).mono (Nat.zero_le _) h1)) (g2_0.kept GobR.stable (Nat.le_refl _) (Nat.le_refl _) ((Same.below hW).mono (Nat.zero_le _) h2)) hy.1 (fun z hz => eqGob_calls z (hy.2.2.2.2.2 z hz))
  have c1 : Hid (∀ W, Below w.heap.size w W → Calls Try.prog 9 #[v1_1, v2_1] W fun e w' => e = .returned (.bool true) ∧ Below W.heap.size W w') := fun W hW =>
    eqIntL_calls v1_1 v2_1 x.roots W lo1 hi1 lo2 hi2 (Nat.le_trans h1 hW.size) (Nat.le_trans h2 hW.size) (g1_1.kept IntR.stable (Nat.le_refl _) (Nat.le_refl _) ((Same.below hW).mono (Nat.zero_le _) h1)) (g2_1.kept IntR.stable (Nat.le_refl _) (Nat.le_refl _) ((Same.below hW).mono (Nat.zero_le _) h2)) hy.2.1
  have c2 : Hid (∀ W, Below w.heap.size w W → Calls Try.prog 9 #[v1_2, v2_2] W fun e w' => e = .returned (.bool true) ∧ Below W.heap.size W w') := fun W hW =>
    eqIntL_calls v1_2 v2_2 x.queue W lo1 hi1 lo2 hi2 (Nat.le_trans h1 hW.size) (Nat.le_trans h2 hW.size) (g1_2.kept IntR.stable (Nat.le_refl _) (Nat.le_refl _) ((Same.below hW).mono (Nat.zero_le _) h1)) (g2_2.kept IntR.stable (Nat.le_refl _) (Nat.le_refl _) ((Same.below hW).mono (Nat.zero_le _) h2)) hy.2.2.1
  have c4 : Hid (∀ W, Below w.heap.size w W → Calls Try.prog 9 #[v1_4, v2_4] W fun e w' => e = .returned (.bool true) ∧ Below W.heap.size W w') := fun W hW =>
    eqIntL_calls v1_4 v2_4 x.tops W lo1 hi1 lo2 hi2 (Nat.le_trans h1 hW.size) (Nat.le_trans h2 hW.size) (g1_4.kept IntR.stable (Nat.le_refl _) (Nat.le_refl _) ((Same.below hW).mono (Nat.zero_le _) h1)) (g2_4.kept IntR.stable (Nat.le_refl _) (Nat.le_refl _) ((Same.below hW).mono (Nat.zero_le _) h2)) hy.2.2.2.1
  have c5 : Hid (∀ W, Below w.heap.size w W → Calls Try.prog 9 #[v1_5, v2_5] W fun e w' => e = .returned (.bool true) ∧ Below W.heap.size W w') := fun W hW =>
    eqIntL_calls v1_5 v2_5 x.dirty W lo1 hi1 lo2 hi2 (Nat.le_trans h1 hW.size) (Nat.le_trans h2 hW.size) (g1_5.kept IntR.stable (Nat.le_refl _) (Nat.le_refl _) ((Same.below hW).mono (Nat.zero_le _) h1)) (g2_5.kept IntR.stable (Nat.le_refl _) (Nat.le_refl _) ((Same.below hW).mono (Nat.zero_le _) h2)) hy.2.2.2.2.1
  obtain ⟨a1_0, k1_0, rfl⟩ := g1_0.form
  obtain ⟨a2_0, k2_0, rfl⟩ := g2_0.form
  obtain ⟨a1_1, k1_1, rfl⟩ := g1_1.form
  obtain ⟨a2_1, k2_1, rfl⟩ := g2_1.form
  obtain ⟨a1_2, k1_2, rfl⟩ := g1_2.form
  obtain ⟨a2_2, k2_2, rfl⟩ := g2_2.form
  obtain ⟨a1_4, k1_4, rfl⟩ := g1_4.form
  obtain ⟨a2_4, k2_4, rfl⟩ := g2_4.form
  obtain ⟨a1_5, k1_5, rfl⟩ := g1_5.form
  obtain ⟨a2_5, k2_5, rfl⟩ := g2_5.form
  have b3 : (x.from_ != x.from_) = false := by simp
  clear hl1 hl2 h1 h2 g1_0 g2_0 g1_1 g2_1 g1_2 g2_2 g1_4 g2_4 g1_5 g2_5
  go_enter Try.func10, Try.ntmps10
  go_wp2_with fail
  obtain ⟨W0, hW0⟩ : ∃ W : World, W = (w.alloc (.cells #[.slice a1_0 x.objs.length k1_0, .slice a1_1 x.roots.length k1_1, .slice a1_2 x.queue.length k1_2, .int .i64 x.from_, .slice a1_4 x.tops.length k1_4, .slice a1_5 x.dirty.length k1_5] 30)).alloc (.cells #[.slice a2_0 x.objs.length k2_0, .slice a2_1 x.roots.length k2_1, .slice a2_2 x.queue.length k2_2, .int .i64 x.from_, .slice a2_4 x.tops.length k2_4, .slice a2_5 x.dirty.length k2_5] 30) := ⟨_, rfl⟩
  rw [← hW0]
  have r0 : Hid (Rec2 w W0 [.slice a1_0 x.objs.length k1_0, .slice a1_1 x.roots.length k1_1, .slice a1_2 x.queue.length k1_2, .int .i64 x.from_, .slice a1_4 x.tops.length k1_4, .slice a1_5 x.dirty.length k1_5] [.slice a2_0 x.objs.length k2_0, .slice a2_1 x.roots.length k2_1, .slice a2_2 x.queue.length k2_2, .int .i64 x.from_, .slice a2_4 x.tops.length k2_4, .slice a2_5 x.dirty.length k2_5]) := Rec2.start hW0
  clear hW0
  refine (c0.out W0 r0.out.hb).mono ?_
  rintro e w1 ⟨rfl, hb1⟩
  have r1 : Hid (Rec2 w w1 [.slice a1_0 x.objs.length k1_0, .slice a1_1 x.roots.length k1_1, .slice a1_2 x.queue.length k1_2, .int .i64 x.from_, .slice a1_4 x.tops.length k1_4, .slice a1_5 x.dirty.length k1_5] [.slice a2_0 x.objs.length k2_0, .slice a2_1 x.roots.length k2_1, .slice a2_2 x.queue.length k2_2, .int .i64 x.from_, .slice a2_4 x.tops.length k2_4, .slice a2_5 x.dirty.length k2_5]) := r0.out.call hb1
  have y1_1 := r1.out.cell1 1 _ rfl
  have z1_1 := r1.out.cell2 1 _ rfl
  have y1_2 := r1.out.cell1 2 _ rfl
  have z1_2 := r1.out.cell2 2 _ rfl
  have y1_3 := r1.out.cell1 3 _ rfl
  have z1_3 := r1.out.cell2 3 _ rfl
  have y1_4 := r1.out.cell1 4 _ rfl
  have z1_4 := r1.out.cell2 4 _ rfl
  have y1_5 := r1.out.cell1 5 _ rfl
  have z1_5 := r1.out.cell2 5 _ rfl
  clear hb1
  go_wp2_with fail
  clear y1_1 z1_1
  clear y1_2 z1_2
  clear y1_3 z1_3
  clear y1_4 z1_4
  clear y1_5 z1_5
  refine (c1.out w1 r1.out.hb).mono ?_
  rintro e w2 ⟨rfl, hb2⟩
  have r2 : Hid (Rec2 w w2 [.slice a1_0 x.objs.length k1_0, .slice a1_1 x.roots.length k1_1, .slice a1_2 x.queue.length k1_2, .int .i64 x.from_, .slice a1_4 x.tops.length k1_4, .slice a1_5 x.dirty.length k1_5] [.slice a2_0 x.objs.length k2_0, .slice a2_1 x.roots.length k2_1, .slice a2_2 x.queue.length k2_2, .int .i64 x.from_, .slice a2_4 x.tops.length k2_4, .slice a2_5 x.dirty.length k2_5]) := r1.out.call hb2
  have y2_2 := r2.out.cell1 2 _ rfl
  have z2_2 := r2.out.cell2 2 _ rfl
  have y2_3 := r2.out.cell1 3 _ rfl
  have z2_3 := r2.out.cell2 3 _ rfl
  have y2_4 := r2.out.cell1 4 _ rfl
  have z2_4 := r2.out.cell2 4 _ rfl
  have y2_5 := r2.out.cell1 5 _ rfl
  have z2_5 := r2.out.cell2 5 _ rfl
  clear hb2
  go_wp2_with fail
  clear y2_2 z2_2
  clear y2_3 z2_3
  clear y2_4 z2_4
  clear y2_5 z2_5
  refine (c2.out w2 r2.out.hb).mono ?_
  rintro e w3 ⟨rfl, hb3⟩
  have r3 : Hid (Rec2 w w3 [.slice a1_0 x.objs.length k1_0, .slice a1_1 x.roots.length k1_1, .slice a1_2 x.queue.length k1_2, .int .i64 x.from_, .slice a1_4 x.tops.length k1_4, .slice a1_5 x.dirty.length k1_5] [.slice a2_0 x.objs.length k2_0, .slice a2_1 x.roots.length k2_1, .slice a2_2 x.queue.length k2_2, .int .i64 x.from_, .slice a2_4 x.tops.length k2_4, .slice a2_5 x.dirty.length k2_5]) := r2.out.call hb3
  have y3_3 := r3.out.cell1 3 _ rfl
  have z3_3 := r3.out.cell2 3 _ rfl
  have y3_4 := r3.out.cell1 4 _ rfl
  have z3_4 := r3.out.cell2 4 _ rfl
  have y3_5 := r3.out.cell1 5 _ rfl
  have z3_5 := r3.out.cell2 5 _ rfl
  clear hb3
  go_wp2_with fail
  clear y3_3 z3_3
  clear y3_4 z3_4
  clear y3_5 z3_5
  refine (c4.out w3 r3.out.hb).mono ?_
  rintro e w4 ⟨rfl, hb4⟩
  have r4 : Hid (Rec2 w w4 [.slice a1_0 x.objs.length k1_0, .slice a1_1 x.roots.length k1_1, .slice a1_2 x.queue.length k1_2, .int .i64 x.from_, .slice a1_4 x.tops.length k1_4, .slice a1_5 x.dirty.length k1_5] [.slice a2_0 x.objs.length k2_0, .slice a2_1 x.roots.length k2_1, .slice a2_2 x.queue.length k2_2, .int .i64 x.from_, .slice a2_4 x.tops.length k2_4, .slice a2_5 x.dirty.length k2_5]) := r3.out.call hb4
  have y4_5 := r4.out.cell1 5 _ rfl
  have z4_5 := r4.out.cell2 5 _ rfl
  clear hb4
  go_wp2_with fail
  clear y4_5 z4_5
  refine (c5.out w4 r4.out.hb).mono ?_
  rintro e w5 ⟨rfl, hb5⟩
  have r5 : Hid (Rec2 w w5 [.slice a1_0 x.objs.length k1_0, .slice a1_1 x.roots.length k1_1, .slice a1_2 x.queue.length k1_2, .int .i64 x.from_, .slice a1_4 x.tops.length k1_4, .slice a1_5 x.dirty.length k1_5] [.slice a2_0 x.objs.length k2_0, .slice a2_1 x.roots.length k2_1, .slice a2_2 x.queue.length k2_2, .int .i64 x.from_, .slice a2_4 x.tops.length k2_4, .slice a2_5 x.dirty.length k2_5]) := r4.out.call hb5
  clear hb5
  go_wp2
  go_ret
  exact ⟨rfl, r5.out.hb⟩
end Go.Proofs.Ytedpocgmfpaeeaa
