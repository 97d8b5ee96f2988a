/- Numbers compared, marked, looked at. -/
import Derived.Test.YtcigiilhlealdaaLs
namespace Go.Proofs.Ytcigiilhlealdaa
set_option linter.unusedVariables false
open Go.ChangeShapes Go.WideShapes Go.ChangeAt Go.RowKit

/-- What may have been written within the blocks from lo up to hi: all else is as it was, and what is there is there still. -/
def Touch (lo hi : Nat) (w w' : World) : Prop := w.heap.size ≤ w'.heap.size ∧ Below lo w w' ∧ ∀ p : Addr, p.block < w.heap.size → (p.block < lo ∨ hi ≤ p.block → w'.cell? p = w.cell? p) ∧ (w'.cell? p).isSome = (w.cell? p).isSome ∧ w'.frozen? p = w.frozen? p
theorem Touch.refl (lo hi : Nat) (w : World) : Touch lo hi w w := ⟨Nat.le_refl _, Below.refl _ _, fun p hp => ⟨fun _ => rfl, rfl, rfl⟩⟩
theorem Touch.trans {lo hi : Nat} {a b c : World} (h : Touch lo hi a b) (k : Touch lo hi b c) : Touch lo hi a c := ⟨Nat.le_trans h.1 k.1, h.2.1.trans k.2.1, fun p hp => by
  obtain ⟨h1, h2, h3⟩ := h.2.2 p hp
  obtain ⟨k1, k2, k3⟩ := k.2.2 p (Nat.lt_of_lt_of_le hp h.1)
  exact ⟨fun q => (k1 q).trans (h1 q), k2.trans h2, k3.trans h3⟩⟩
theorem Touch.mono {lo hi lo' hi' : Nat} {w w' : World} (h : Touch lo hi w w') (h1 : lo' ≤ lo) (h2 : hi ≤ hi') : Touch lo' hi' w w' := ⟨h.1, h.2.1.mono h1, fun p hp => by
  obtain ⟨a, b, c⟩ := h.2.2 p hp
  exact ⟨fun q => a (by omega), b, c⟩⟩
theorem Touch.below {lo hi : Nat} {w w' : World} (h : Below w.heap.size w w') (hl : lo ≤ w.heap.size) : Touch lo hi w w' := ⟨h.size, h.mono hl, fun p hp => ⟨fun _ => h.cell hp, by rw [h.cell hp], h.frozen hp⟩⟩
theorem Touch.setCell {lo hi : Nat} (w : World) (b o : Nat) (v : Value) (h1 : lo ≤ b) (h2 : b < hi) {q : Value} (hq : w.cell? ⟨b, o, none⟩ = some q) : Touch lo hi w (w.setCell ⟨b, o, none⟩ v) := ⟨by simp [World.setCell], (Below.refl _ _).setCell (p := ⟨b, o, none⟩) h1 v, fun p hp => by
  by_cases e : (⟨b, o, none⟩ : Addr) = p
  · subst e
    exact ⟨fun h => by rcases h with h | h <;> simp at h <;> omega, by rw [World.cell?_setCell_same _ _ _ hq, hq]; rfl, by simp⟩
  · have e2 := World.cell?_setCell_other w ⟨b, o, none⟩ p v e
    exact ⟨fun _ => e2, by rw [e2], by simp⟩⟩
theorem Touch.same {lo hi a b : Nat} {w w' : World} (h : Touch lo hi w w') (hb : b ≤ w.heap.size) (hd : b ≤ lo ∨ hi ≤ a) : Same a b w w' := fun p h1 h2 => by
  obtain ⟨x, y, z⟩ := h.2.2 p (by omega)
  exact ⟨x (by omega), z⟩
theorem Touch.there {lo hi : Nat} {w w' : World} (h : Touch lo hi w w') {b o n : Nat} (hb : b < w.heap.size) (ht : w.there b o n) : w'.there b o n := fun j hj => by
  obtain ⟨x, y, z⟩ := h.2.2 ⟨b, o + j, none⟩ hb
  rw [y, z]; exact ht j hj

/-! ### Rows of numbers that a call made -/
def IntsAt (lo hi : Nat) (w : World) (v : Value) (zs : List Int) : Prop :=
  (zs = [] ∧ ∃ a c, v = .slice a 0 c) ∨ ∃ b c, v = .slice (some ⟨b, 0, none⟩) zs.length c ∧ lo ≤ b ∧ b < hi ∧ w.there b 0 zs.length ∧ ∀ j (h : j < zs.length), w.cell? ⟨b, j, none⟩ = some (.int .i64 zs[j])
theorem IntsAt.kept {lo hi : Nat} {w w' : World} {v : Value} {zs : List Int} (h : IntsAt lo hi w v zs) (hs : Same lo hi w w') : IntsAt lo hi w' v zs := by
  rcases h with h | ⟨b, c, hv, h1, h2, h3, h4⟩
  · exact .inl h
  · exact .inr ⟨b, c, hv, h1, h2, there_same hs h1 h2 h3, fun j hj => by rw [(hs ⟨b, j, none⟩ h1 h2).1]; exact h4 j hj⟩
theorem IntsAt.mono {lo hi lo' hi' : Nat} {w : World} {v : Value} {zs : List Int} (h : IntsAt lo hi w v zs) (h1 : lo' ≤ lo) (h2 : hi ≤ hi') : IntsAt lo' hi' w v zs := by
  rcases h with h | ⟨b, c, hv, g1, g2, h3, h4⟩
  · exact .inl h
  · exact .inr ⟨b, c, hv, by omega, by omega, h3, h4⟩
theorem IntsAt.form {lo hi : Nat} {w : World} {v : Value} {zs : List Int} (h : IntsAt lo hi w v zs) : ∃ a c, v = .slice a zs.length c := by
  rcases h with ⟨rfl, a, c, rfl⟩ | ⟨b, c, hv, _⟩
  · exact ⟨a, c, rfl⟩
  · exact ⟨_, c, hv⟩
theorem IntsAt.at {lo hi : Nat} {w : World} {a : Option Addr} {n c : Nat} {zs : List Int} (h : IntsAt lo hi w (.slice a n c) zs) (j : Nat) (hj : j < zs.length) : ∃ b, a = some ⟨b, 0, none⟩ ∧ lo ≤ b ∧ b < hi ∧ w.cell? ⟨b, j, none⟩ = some (.int .i64 zs[j]) ∧ w.frozen? ⟨b, j, none⟩ = false := by
  rcases h with ⟨rfl, _⟩ | ⟨b, c', hv, h1, h2, h3, h4⟩
  · simp at hj
  · injection hv with e1
    exact ⟨b, e1, h1, h2, h4 j hj, by have := (h3 j hj).2; simpa using this⟩
theorem ListAt.ints {lo hi : Nat} {w : World} {v : Value} {zs : List Int} (h : ListAt IntR 1 true lo hi w v zs) : IntsAt lo hi w v zs := by
  rcases h with ⟨h, _⟩ | ⟨b, off, c, hv, hlo, hhi, ho, hc⟩
  · cases h
  · obtain ⟨h0, ht, _⟩ := ho rfl
    subst h0
    refine .inr ⟨b, c, hv, hlo, hhi, by simpa using ht, fun j hj => ?_⟩
    obtain ⟨row, hl, hr, hx, _⟩ := hc j hj
    have : row = [.int .i64 zs[j]] := hx
    simpa using hr 0 (.int .i64 zs[j]) (by rw [this]; rfl)
theorem IntsAt.set {lo hi : Nat} {w : World} {b n c : Nat} {zs : List Int} (h : IntsAt lo hi w (.slice (some ⟨b, 0, none⟩) n c) zs) (hn : 0 < zs.length) (i : Nat) (hi' : i < zs.length) (z : Int) : IntsAt lo hi (w.setCell ⟨b, i, none⟩ (.int .i64 z)) (.slice (some ⟨b, 0, none⟩) n c) (zs.set i z) := by
  rcases h with ⟨rfl, _⟩ | ⟨b', c', hv, h1, h2, h3, h4⟩
  · simp at hn
  · injection hv with e1 e2 e3
    injection e1 with e1
    injection e1 with e1
    subst e1
    refine .inr ⟨b, c, by rw [e2]; simp, h1, h2, ?_, fun j hj => ?_⟩
    · simp only [List.length_set]
      rw [← setCells_one]; exact World.there_setCells h3 _ _ _
    · have hj' : j < zs.length := by simpa using hj
      by_cases e : j = i
      · subst e
        rw [World.cell?_setCell_same _ _ _ (h4 j hj')]; simp
      · rw [World.cell?_setCell_other _ _ _ _ (fun e2 => e (by injection e2 with _ e3; exact e3.symm)), h4 j hj']
        rw [List.getElem_set_ne (fun e2 => e e2.symm)]

set_option maxRecDepth 1000000 in
set_option maxHeartbeats 1000000 in
theorem eqInts_calls (u v : Value) (zs : List Int) (w : World) (lo1 hi1 lo2 hi2 : Nat) (hu : IntsAt lo1 hi1 w u zs) (hv : IntsAt lo2 hi2 w v zs) (hn : zs.length ≤ 9223372036854775807) :
    Calls Try.prog 42 #[u, v] w fun e w' => e = .returned (.bool true) ∧ ∃ n, w' = w.drewN n := by
  obtain ⟨a, c, rfl⟩ := hu.form
  obtain ⟨a2, c2, rfl⟩ := hv.form
  have huH : Hid (IntsAt lo1 hi1 w (.slice a zs.length c) zs) := hu
  have hvH : Hid (IntsAt lo2 hi2 w (.slice a2 zs.length c2) zs) := hv
  clear hu hv
  go_enter Try.func42, Try.ntmps42
  go_wp2
  go_loopw [5] (fun i wr => ∃ m n : Nat, m ≤ zs.length ∧ i = .int .i64 m ∧ wr = w.drewN n) (fun i _ => zs.length - (intOf i).toNat)
  case atStart => exact ⟨0, 0, Nat.zero_le _, rfl, rfl⟩
  case round =>
    obtain ⟨m, n, hm, rfl, rfl⟩ := hrel
    by_cases hlt : m < zs.length
    · obtain ⟨b, rfl, _, _, hc1, _⟩ := huH.out.at m hlt
      obtain ⟨b2, rfl, _, _, hc2, _⟩ := hvH.out.at m hlt
      have hlt' : (m : Int) < (zs.length : Int) := by omega
      obtain ⟨z, hz⟩ : ∃ z, z = zs[m] := ⟨_, rfl⟩
      rw [← hz] at hc1 hc2
      have hzz : (z != z) = false := by simp
      clear hz
      go_wp2
      try go_quiet (fail)
      try go_wp2
      go_roundw
      case rel => exact ⟨m + 1, _, by omega, by go_num, rfl⟩
      case measure => simp [intOf]; omega
    · go_wp2
      go_ret
      exact ⟨rfl, _, rfl⟩

/-- k, k + 1 and so on. -/
def iota : Int → Nat → List Int
  | _, 0 => []
  | k, n + 1 => k :: iota (k + 1) n
theorem iota_length (k : Int) (n : Nat) : (iota k n).length = n := by
  induction n generalizing k with
  | zero => rfl
  | succ n ih => simp [iota, ih]
theorem iota_get (k : Int) (n : Nat) (j : Nat) (h : j < (iota k n).length) : (iota k n)[j] = k + j := by
  induction n generalizing k j with
  | zero => simp [iota] at h
  | succ n ih =>
    cases j with
    | zero => simp [iota]
    | succ j =>
      have := ih (k + 1) j (by simpa [iota] using h)
      simp only [iota, List.getElem_cons_succ, this]; omega
theorem IntsAt.iota_of {lo hi : Nat} {w : World} {v : Value} {zs ys : List Int} {k : Int} (h : IntsAt lo hi w v ys) (hl : ys.length = zs.length) (hj : ∀ j (h : j < ys.length), ys[j] = k + j) : IntsAt lo hi w v (iota k zs.length) := by
  have e : ys = iota k zs.length := List.ext_getElem (by rw [iota_length, hl]) (fun j h1 h2 => by rw [hj j h1, iota_get])
  rw [← e]; exact h

set_option maxRecDepth 1000000 in
set_option maxHeartbeats 1000000 in
theorem markInts_calls (v : Value) (zs : List Int) (k : Int) (w : World) (lo hi : Nat) (hh : hi ≤ w.heap.size) (hv : IntsAt lo hi w v zs) (h0 : 0 ≤ k) (hk : k ≤ 4611686018427387903) (hn : zs.length ≤ 4611686018427387903) :
    Calls Try.prog 38 #[v, .int .i64 k] w fun e w' => e = .returned (.int .i64 (k + zs.length)) ∧ Touch lo hi w w' ∧ IntsAt lo hi w' v (iota k zs.length) := by
  obtain ⟨a, c, rfl⟩ := hv.form
  have hvH : Hid (IntsAt lo hi w (.slice a zs.length c) zs) := hv
  have hhH : Hid (hi ≤ w.heap.size) := hh
  clear hv hh
  obtain ⟨ln, hln⟩ : ∃ ln, ln = zs.length := ⟨_, rfl⟩
  have hlnH : Hid (ln = zs.length) := hln
  rw [← hln] at hvH hn ⊢
  clear hln
  go_enter Try.func38, Try.ntmps38
  go_wp2
  go_loopw [1, 5] (fun kv i wr => ∃ (m : Nat) (ys : List Int), m ≤ ln ∧ kv = .int .i64 (k + m) ∧ i = .int .i64 m ∧ Hid (Touch lo hi w wr) ∧ Hid (IntsAt lo hi wr (.slice a ln c) ys) ∧ Hid (ys.length = ln) ∧ Hid (∀ j (h : j < ys.length), j < m → ys[j] = k + j)) (fun _ i _ => ln - (intOf i).toNat)
  case atStart => exact ⟨0, zs, Nat.zero_le _, by simp, rfl, Touch.refl _ _ _, hvH, hlnH.out.symm, fun j _ h => absurd h (by omega)⟩
  case round =>
    obtain ⟨m, ys, hm, rfl, rfl, hT, hI, hL, hJ⟩ := hrel
    by_cases hlt : m < ln
    · have hlt' : (m : Int) < (ln : Int) := by omega
      have hm0 : (0 : Int) ≤ m := by omega
      obtain ⟨b, rfl, hb1, hb2, hcell, hfz⟩ := hI.out.at m (by rw [hL.out]; exact hlt)
      have hn1 : Hid (IntsAt lo hi (wr.setCell ⟨b, m, none⟩ (.int .i64 (k + m))) (.slice (some ⟨b, 0, none⟩) ln c) (ys.set m (k + m))) := hI.out.set (by have := hL.out; omega) m (by rw [hL.out]; exact hlt) _
      have hT1 : Hid (Touch lo hi w (wr.setCell ⟨b, m, none⟩ (.int .i64 (k + m)))) := hT.out.trans (Touch.setCell wr b m _ hb1 hb2 hcell)
      have hJ1 : Hid (∀ j (h : j < (ys.set m (k + m)).length), j < m + 1 → (ys.set m (k + m))[j] = k + j) := fun j h hj => by
        by_cases e : j = m
        · subst e; simp
        · rw [List.getElem_set_ne (fun e2 => e e2.symm)]
          exact hJ.out j (by simpa using h) (by omega)
      have hL1 : Hid ((ys.set m (k + m)).length = ln) := by show _ = _; rw [List.length_set]; exact hL.out
      obtain ⟨y, hcy⟩ : ∃ y, wr.cell? ⟨b, m, none⟩ = some y := ⟨_, hcell⟩
      clear hcell
      clear hT hI hL hJ
      go_wp2
      go_roundw
      case rel => exact ⟨m + 1, ys.set m (k + m), by omega, by go_num, by go_num, hT1, hn1, hL1, hJ1⟩
      case measure => simp [intOf]; omega
    · have hme : m = ln := by omega
      have hfin : Hid (IntsAt lo hi wr (.slice a ln c) (iota k ln)) := by
        have := hI.out.iota_of (k := k) (zs := ys) rfl (fun j h => hJ.out j h (by have := hL.out; omega))
        rw [hL.out] at this; exact this
      go_wp2
      go_ret
      exact ⟨by first | rfl | (rw [hme]; rfl), hT.out, hfin.out⟩

set_option maxRecDepth 1000000 in
set_option maxHeartbeats 1000000 in
theorem heldInts_calls (v : Value) (n : Nat) (k : Int) (w : World) (lo hi : Nat) (hv : IntsAt lo hi w v (iota k n)) (h0 : 0 ≤ k) (hk : k ≤ 4611686018427387903) (hn : n ≤ 4611686018427387903) :
    Calls Try.prog 39 #[v, .int .i64 k] w fun e w' => e = .returned (.int .i64 (k + n)) ∧ w' = w := by
  obtain ⟨a, c, rfl⟩ := hv.form
  rw [iota_length] at hv ⊢
  have hvH : Hid (IntsAt lo hi w (.slice a n c) (iota k n)) := hv
  clear hv
  go_enter Try.func39, Try.ntmps39
  go_wp2
  go_loopw [1, 5] (fun kv i wr => ∃ m : Nat, m ≤ n ∧ kv = .int .i64 (k + m) ∧ i = .int .i64 m ∧ wr = w) (fun _ i _ => n - (intOf i).toNat)
  case atStart => exact ⟨0, Nat.zero_le _, by simp, rfl, rfl⟩
  case round =>
    obtain ⟨m, hm, rfl, rfl, hw⟩ := hrel
    have hw2 := hw.symm
    subst hw2
    by_cases hlt : m < n
    · have hlt' : (m : Int) < (n : Int) := by omega
      have hm0 : (0 : Int) ≤ m := by omega
      obtain ⟨b, rfl, hb1, hb2, hcell, hfz⟩ := hvH.out.at m (by rw [iota_length]; exact hlt)
      rw [iota_get] at hcell
      have hzz : (k + (m : Int) != k + m) = false := by simp
      go_wp2
      go_roundw
      case rel => exact ⟨m + 1, by omega, by go_num, by go_num, by first | trivial | rfl⟩
      case measure => simp [intOf]; omega
    · have hme : m = n := by omega
      go_wp2
      go_ret
      exact ⟨by first | rfl | (rw [hme]; rfl), by first | trivial | rfl⟩
end Go.Proofs.Ytcigiilhlealdaa
