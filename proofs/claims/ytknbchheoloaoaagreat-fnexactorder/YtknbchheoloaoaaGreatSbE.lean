/- Rows of numbers, several cells an element: comparisons, marks, looks at marks. -/
import Derived.Test.YtknbchheoloaoaaGreatLs
import Derived.Test.YtknbchheoloaoaaGreatLtA
import Derived.Test.YtknbchheoloaoaaGreatSaB
import Derived.Lib.QuietBelow
import Derived.Test.YtknbchheoloaoaaGreatSaL
namespace Go.Proofs.YtknbchheoloaoaaGreat
set_option linter.unusedVariables false
open Go.ChangeShapes Go.WideShapes Go.ChangeAt Go.RowKit
def Touch (lo hi : Nat) (w w' : World) : Prop := w.heap.size ≤ w'.heap.size ∧ Below lo w w' ∧ ∀ p : Addr, p.block < w.heap.size → (p.block < lo ∨ hi ≤ p.block → w'.cell? p = w.cell? p) ∧ (w'.cell? p).isSome = (w.cell? p).isSome ∧ w'.frozen? p = w.frozen? p
theorem Touch.refl (lo hi : Nat) (w : World) : Touch lo hi w w := ⟨Nat.le_refl _, Below.refl _ _, fun p hp => ⟨fun _ => rfl, rfl, rfl⟩⟩
theorem Touch.trans {lo hi : Nat} {a b c : World} (h : Touch lo hi a b) (k : Touch lo hi b c) : Touch lo hi a c := ⟨Nat.le_trans h.1 k.1, h.2.1.trans k.2.1, fun p hp => by
 obtain ⟨h1, h2, h3⟩ := h.2.2 p hp
 obtain ⟨k1, k2, k3⟩ := k.2.2 p (Nat.lt_of_lt_of_le hp h.1)
 exact ⟨fun q => (k1 q).trans (h1 q), k2.trans h2, k3.trans h3⟩⟩
theorem Touch.mono {lo hi lo' hi' : Nat} {w w' : World} (h : Touch lo hi w w') (h1 : lo' ≤ lo) (h2 : hi ≤ hi') : Touch lo' hi' w w' := ⟨h.1, h.2.1.mono h1, fun p hp => by
 obtain ⟨a, b, c⟩ := h.2.2 p hp
 exact ⟨fun q => a (by omega), b, c⟩⟩
theorem Touch.below {lo hi : Nat} {w w' : World} (h : Below w.heap.size w w') (hl : lo ≤ w.heap.size) : Touch lo hi w w' := ⟨h.size, h.mono hl, fun p hp => ⟨fun _ => h.cell hp, by rw [h.cell hp], h.frozen hp⟩⟩
theorem Touch.setCell {lo hi : Nat} (w : World) (b o : Nat) (v : Value) (h1 : lo ≤ b) (h2 : b < hi) {q : Value} (hq : w.cell? ⟨b, o, none⟩ = some q) : Touch lo hi w (w.setCell ⟨b, o, none⟩ v) := ⟨by simp [World.setCell], (Below.refl _ _).setCell (p := ⟨b, o, none⟩) h1 v, fun p hp => by
 by_cases e : (⟨b, o, none⟩ : Addr) = p
 ·subst e
  exact ⟨fun h => by rcases h with h | h <;> simp at h <;> omega, by rw [World.cell?_setCell_same _ _ _ hq, hq]; rfl, by simp⟩
 ·have e2 := World.cell?_setCell_other w ⟨b, o, none⟩ p v e
  exact ⟨fun _ => e2, by rw [e2], by simp⟩⟩
theorem Touch.same {lo hi a b : Nat} {w w' : World} (h : Touch lo hi w w') (hb : b ≤ w.heap.size) (hd : b ≤ lo ∨ hi ≤ a) : Same a b w w' := fun p h1 h2 => by
 obtain ⟨x, y, z⟩ := h.2.2 p (by omega)
 exact ⟨x (by omega), z⟩
theorem Touch.there {lo hi : Nat} {w w' : World} (h : Touch lo hi w w') {b o n : Nat} (hb : b < w.heap.size) (ht : w.there b o n) : w'.there b o n := fun j hj => by
 obtain ⟨x, y, z⟩ := h.2.2 ⟨b, o + j, none⟩ hb
 rw [y, z]; exact ht j hj

def IntsAt (lo hi : Nat) (w : World) (v : Value) (zs : List Int) : Prop :=
 (zs = [] ∧ ∃ a c, v = .slice a 0 c) ∨ ∃ b c, v = .slice (some ⟨b, 0, none⟩) zs.length c ∧ lo ≤ b ∧ b < hi ∧ w.there b 0 zs.length ∧ ∀ j (h : j < zs.length), w.cell? ⟨b, j, none⟩ = some (.int .i64 zs[j])
theorem IntsAt.kept {lo hi : Nat} {w w' : World} {v : Value} {zs : List Int} (h : IntsAt lo hi w v zs) (hs : Same lo hi w w') : IntsAt lo hi w' v zs := by
 rcases h with h | ⟨b, c, hv, h1, h2, h3, h4⟩
 ·exact .inl h
 ·exact .inr ⟨b, c, hv, h1, h2, there_same hs h1 h2 h3, fun j hj => by rw [(hs ⟨b, j, none⟩ h1 h2).1]; exact h4 j hj⟩
theorem IntsAt.mono {lo hi lo' hi' : Nat} {w : World} {v : Value} {zs : List Int} (h : IntsAt lo hi w v zs) (h1 : lo' ≤ lo) (h2 : hi ≤ hi') : IntsAt lo' hi' w v zs := by
 rcases h with h | ⟨b, c, hv, g1, g2, h3, h4⟩
 ·exact .inl h
 ·exact .inr ⟨b, c, hv, by omega, by omega, h3, h4⟩
theorem IntsAt.form {lo hi : Nat} {w : World} {v : Value} {zs : List Int} (h : IntsAt lo hi w v zs) : ∃ a c, v = .slice a zs.length c := by
 rcases h with ⟨rfl, a, c, rfl⟩ | ⟨b, c, hv, _⟩
 ·exact ⟨a, c, rfl⟩
 ·exact ⟨_, c, hv⟩
theorem IntsAt.at {lo hi : Nat} {w : World} {a : Option Addr} {n c : Nat} {zs : List Int} (h : IntsAt lo hi w (.slice a n c) zs) (j : Nat) (hj : j < zs.length) : ∃ b, a = some ⟨b, 0, none⟩ ∧ lo ≤ b ∧ b < hi ∧ w.cell? ⟨b, j, none⟩ = some (.int .i64 zs[j]) ∧ w.frozen? ⟨b, j, none⟩ = false := by
 rcases h with ⟨rfl, _⟩ | ⟨b, c', hv, h1, h2, h3, h4⟩
 ·simp at hj
 ·injection hv with e1
  exact ⟨b, e1, h1, h2, h4 j hj, by have := (h3 j hj).2; simpa using this⟩
theorem ListAt.ints {lo hi : Nat} {w : World} {v : Value} {zs : List Int} (h : ListAt IntR 1 true lo hi w v zs) : IntsAt lo hi w v zs := by
 rcases h with ⟨h, _⟩ | ⟨b, off, c, hv, hlo, hhi, ho, hc⟩
 ·cases h
 ·obtain ⟨h0, ht, _⟩ := ho rfl
  subst h0
  refine .inr ⟨b, c, hv, hlo, hhi, by simpa using ht, fun j hj => ?_⟩
  obtain ⟨row, hl, hr, hx, _⟩ := hc j hj
  have : row = [.int .i64 zs[j]] := hx
  simpa using hr 0 (.int .i64 zs[j]) (by rw [this]; rfl)
theorem IntsAt.set {lo hi : Nat} {w : World} {b n c : Nat} {zs : List Int} (h : IntsAt lo hi w (.slice (some ⟨b, 0, none⟩) n c) zs) (hn : 0 < zs.length) (i : Nat) (hi' : i < zs.length) (z : Int) : IntsAt lo hi (w.setCell ⟨b, i, none⟩ (.int .i64 z)) (.slice (some ⟨b, 0, none⟩) n c) (zs.set i z) := by
 rcases h with ⟨rfl, _⟩ | ⟨b', c', hv, h1, h2, h3, h4⟩
 ·simp at hn
 ·injection hv with e1 e2 e3
  injection e1 with e1
  injection e1 with e1
  subst e1
  refine .inr ⟨b, c, by rw [e2]; simp, h1, h2, ?_, fun j hj => ?_⟩
  ·simp only [List.length_set]
   rw [← setCells_one]; exact World.there_setCells h3 _ _ _
  ·have hj' : j < zs.length := by simpa using hj
   by_cases e : j = i
   ·subst e
    rw [World.cell?_setCell_same _ _ _ (h4 j hj')]; simp
   ·rw [World.cell?_setCell_other _ _ _ _ (fun e2 => e (by injection e2 with _ e3; exact e3.symm)), h4 j hj']
    rw [List.getElem_set_ne (fun e2 => e e2.symm)]

set_option maxRecDepth 1000000 in
set_option maxHeartbeats 1000000 in
theorem eqInts_calls (u v : Value) (zs : List Int) (w : World) (lo1 hi1 lo2 hi2 : Nat) (hu : IntsAt lo1 hi1 w u zs) (hv : IntsAt lo2 hi2 w v zs) (hn : zs.length ≤ 9223372036854775807) :
  Calls Tryz.prog 11 #[u, v] w fun e w' => e = .returned (.bool true) ∧ ∃ n, w' = w.drewN n := by
 obtain ⟨a, c, rfl⟩ := hu.form
 obtain ⟨a2, c2, rfl⟩ := hv.form
 have huH : Hid (IntsAt lo1 hi1 w (.slice a zs.length c) zs) := hu
 have hvH : Hid (IntsAt lo2 hi2 w (.slice a2 zs.length c2) zs) := hv
 clear hu hv
 go_enter Tryz.func11, Tryz.ntmps11
 go_wp2
 go_loopw [5] (fun i wr => ∃ m n : Nat, m ≤ zs.length ∧ i = .int .i64 m ∧ wr = w.drewN n) (fun i _ => zs.length - (intOf i).toNat)
 case atStart => exact ⟨0, 0, Nat.zero_le _, rfl, rfl⟩
 case round =>
  obtain ⟨m, n, hm, rfl, rfl⟩ := hrel
  by_cases hlt : m < zs.length
  ·obtain ⟨b, rfl, _, _, hc1, _⟩ := huH.out.at m hlt
   obtain ⟨b2, rfl, _, _, hc2, _⟩ := hvH.out.at m hlt
   have hlt' : (m : Int) < (zs.length : Int) := by omega
   obtain ⟨z, hz⟩ : ∃ z, z = zs[m] := ⟨_, rfl⟩
   rw [← hz] at hc1 hc2
   have hzz : (z != z) = false := by simp
   clear hz
   go_wp2
   try go_quiet (fail)
   try go_wp2
   go_roundw
   case rel => exact ⟨m + 1, _, by omega, by go_num, rfl⟩
   case measure => simp [intOf]; omega
  ·go_wp2
   go_ret
   exact ⟨rfl, _, rfl⟩

def iota : Int → Nat → List Int
 | _, 0 => []
 | k, n + 1 => k :: iota (k + 1) n
theorem iota_length (k : Int) (n : Nat) : (iota k n).length = n := by
 induction n generalizing k with
 | zero => rfl
 | succ n ih => simp [iota, ih]
theorem iota_get (k : Int) (n : Nat) (j : Nat) (h : j < (iota k n).length) : (iota k n)[j] = k + j := by
 induction n generalizing k j with
 | zero => simp [iota] at h
 | succ n ih =>
  cases j with
  | zero => simp [iota]
  | succ j =>
   have := ih (k + 1) j (by simpa [iota] using h)
   simp only [iota, List.getElem_cons_succ, this]; omega
theorem IntsAt.iota_of {lo hi : Nat} {w : World} {v : Value} {zs ys : List Int} {k : Int} (h : IntsAt lo hi w v ys) (hl : ys.length = zs.length) (hj : ∀ j (h : j < ys.length), ys[j] = k + j) : IntsAt lo hi w v (iota k zs.length) := by
 have e : ys = iota k zs.length := List.ext_getElem (by rw [iota_length, hl]) (fun j h1 h2 => by rw [hj j h1, iota_get])
 rw [← e]; exact h

set_option maxRecDepth 1000000 in
set_option maxHeartbeats 1000000 in
theorem markInts_calls (v : Value) (zs : List Int) (k : Int) (w : World) (lo hi : Nat) (hh : hi ≤ w.heap.size) (hv : IntsAt lo hi w v zs) (h0 : 0 ≤ k) (hk : k ≤ 4611686018427387903) (hn : zs.length ≤ 4611686018427387903) :
  Calls Tryz.prog 13 #[v, .int .i64 k] w fun e w' => e = .returned (.int .i64 (k + zs.length)) ∧ Touch lo hi w w' ∧ IntsAt lo hi w' v (iota k zs.length) := by
 obtain ⟨a, c, rfl⟩ := hv.form
 have hvH : Hid (IntsAt lo hi w (.slice a zs.length c) zs) := hv
 have hhH : Hid (hi ≤ w.heap.size) := hh
 clear hv hh
 obtain ⟨ln, hln⟩ : ∃ ln, ln = zs.length := ⟨_, rfl⟩
 have hlnH : Hid (ln = zs.length) := hln
 rw [← hln] at hvH hn ⊢
 clear hln
 go_enter Tryz.func13, Tryz.ntmps13
 go_wp2
 go_loopw [1, 5] (fun kv i wr => ∃ (m : Nat) (ys : List Int), m ≤ ln ∧ kv = .int .i64 (k + m) ∧ i = .int .i64 m ∧ Hid (Touch lo hi w wr) ∧ Hid (IntsAt lo hi wr (.slice a ln c) ys) ∧ Hid (ys.length = ln) ∧ Hid (∀ j (h : j < ys.length), j < m → ys[j] = k + j)) (fun _ i _ => ln - (intOf i).toNat)
 case atStart => exact ⟨0, zs, Nat.zero_le _, by simp, rfl, Touch.refl _ _ _, hvH, hlnH.out.symm, fun j _ h => absurd h (by omega)⟩
 case round =>
  obtain ⟨m, ys, hm, rfl, rfl, hT, hI, hL, hJ⟩ := hrel
  by_cases hlt : m < ln
  ·have hlt' : (m : Int) < (ln : Int) := by omega
   have hm0 : (0 : Int) ≤ m := by omega
   obtain ⟨b, rfl, hb1, hb2, hcell, hfz⟩ := hI.out.at m (by rw [hL.out]; exact hlt)
   have hn1 : Hid (IntsAt lo hi (wr.setCell ⟨b, m, none⟩ (.int .i64 (k + m))) (.slice (some ⟨b, 0, none⟩) ln c) (ys.set m (k + m))) := hI.out.set (by have := hL.out; omega) m (by rw [hL.out]; exact hlt) _
   have hT1 : Hid (Touch lo hi w (wr.setCell ⟨b, m, none⟩ (.int .i64 (k + m)))) := hT.out.trans (Touch.setCell wr b m _ hb1 hb2 hcell)
   have hJ1 : Hid (∀ j (h : j < (ys.set m (k + m)).length), j < m + 1 → (ys.set m (k + m))[j] = k + j) := fun j h hj => by
    by_cases e : j = m
    ·subst e; simp
    ·rw [List.getElem_set_ne (fun e2 => e e2.symm)]
     exact hJ.out j (by simpa using h) (by omega)
   have hL1 : Hid ((ys.set m (k + m)).length = ln) := by show _ = _; rw [List.length_set]; exact hL.out
   obtain ⟨y, hcy⟩ : ∃ y, wr.cell? ⟨b, m, none⟩ = some y := ⟨_, hcell⟩
   clear hcell
   clear hT hI hL hJ
   go_wp2
   go_roundw
   case rel => exact ⟨m + 1, ys.set m (k + m), by omega, by go_num, by go_num, hT1, hn1, hL1, hJ1⟩
   case measure => simp [intOf]; omega
  ·have hme : m = ln := by omega
   have hfin : Hid (IntsAt lo hi wr (.slice a ln c) (iota k ln)) := by
    have := hI.out.iota_of (k := k) (zs := ys) rfl (fun j h => hJ.out j h (by have := hL.out; omega))
    rw [hL.out] at this; exact this
   go_wp2
   go_ret
   exact ⟨by first | rfl | (rw [hme]; rfl), hT.out, hfin.out⟩


def RowAt (k : Nat) (lo hi : Nat) (w : World) (v : Value) (n : Nat) : Prop := ∃ b c, v = .slice (some ⟨b, 0, none⟩) n c ∧ lo ≤ b ∧ b < hi ∧ w.there b 0 (n * k)
theorem ListAt.rowAt {α : Type} {R : Rd α} {k lo hi : Nat} {w : World} {v : Value} {xs : List α} (h : ListAt R k true lo hi w v xs) : RowAt k lo hi w v xs.length := by
 rcases h with ⟨h, _⟩ | ⟨b, off, c, hv, hlo, hhi, ho, hc⟩
 ·cases h
 ·obtain ⟨h0, ht, _⟩ := ho rfl
  subst h0
  exact ⟨b, c, hv, hlo, hhi, ht⟩
theorem RowAt.touch {k lo hi a b : Nat} {w w' : World} {v : Value} {n : Nat} (h : RowAt k lo hi w v n) (hh : hi ≤ w.heap.size) (ht : Touch a b w w') : RowAt k lo hi w' v n := by
 obtain ⟨g, c, hv, h1, h2, h3⟩ := h
 exact ⟨g, c, hv, h1, h2, ht.there (by omega) h3⟩
theorem there_cell {w : World} {b n : Nat} (h : w.there b 0 n) (j : Nat) (hj : j < n) : (∃ q, w.cell? ⟨b, j, none⟩ = some q) ∧ w.frozen? ⟨b, j, none⟩ = false := by
 have := h j hj
 simp only [Nat.zero_add] at this
 exact ⟨Option.isSome_iff_exists.1 this.1, this.2⟩


def NumAt (K lo hi : Nat) (w : World) (v : Value) (n : Nat) (zs : List Int) : Prop := zs.length = n * K ∧
 ((n = 0 ∧ ∃ a c, v = .slice a 0 c) ∨ ∃ b c, v = .slice (some ⟨b, 0, none⟩) n c ∧ lo ≤ b ∧ b < hi ∧ w.there b 0 zs.length ∧ ∀ j (h : j < zs.length), w.cell? ⟨b, j, none⟩ = some (.int .i64 zs[j]))
theorem NumAt.kept {K lo hi : Nat} {w w' : World} {v : Value} {n : Nat} {zs : List Int} (h : NumAt K lo hi w v n zs) (hs : Same lo hi w w') : NumAt K lo hi w' v n zs := by
 refine ⟨h.1, ?_⟩
 rcases h.2 with h | ⟨b, c, hv, h1, h2, h3, h4⟩
 ·exact .inl h
 ·exact .inr ⟨b, c, hv, h1, h2, there_same hs h1 h2 h3, fun j hj => by rw [(hs ⟨b, j, none⟩ h1 h2).1]; exact h4 j hj⟩
theorem NumAt.mono {K lo hi : Nat} {w : World} {v : Value} {n : Nat} {zs : List Int} {lo' hi' : Nat} (h : NumAt K lo hi w v n zs) (h1 : lo' ≤ lo) (h2 : hi ≤ hi') : NumAt K lo' hi' w v n zs := by
 refine ⟨h.1, ?_⟩
 rcases h.2 with h | ⟨b, c, hv, g1, g2, h3, h4⟩
 ·exact .inl h
 ·exact .inr ⟨b, c, hv, by omega, by omega, h3, h4⟩
theorem NumAt.form {K lo hi : Nat} {w : World} {v : Value} {n : Nat} {zs : List Int} (h : NumAt K lo hi w v n zs) : ∃ a c, v = .slice a n c := by
 rcases h.2 with ⟨rfl, a, c, rfl⟩ | ⟨b, c, hv, _⟩
 ·exact ⟨a, c, rfl⟩
 ·exact ⟨_, c, hv⟩
theorem NumAt.at {K lo hi : Nat} {w : World} {n : Nat} {zs : List Int} {a : Option Addr} {m c : Nat} (h : NumAt K lo hi w (.slice a m c) n zs) (hn : 0 < n) : ∃ b, a = some ⟨b, 0, none⟩ ∧ lo ≤ b ∧ b < hi ∧ ∀ j (hj : j < n * K), w.cell? ⟨b, j, none⟩ = some (.int .i64 (zs[j]'(by rw [h.1]; exact hj))) ∧ w.frozen? ⟨b, j, none⟩ = false := by
 rcases h.2 with ⟨h0, _⟩ | ⟨b, c', hv, h1, h2, h3, h4⟩
 ·omega
 ·injection hv with e1
  exact ⟨b, e1, h1, h2, fun j hj => ⟨h4 j (by rw [h.1]; exact hj), by have := (h3 j (by rw [h.1]; exact hj)).2; simpa using this⟩⟩
theorem NumAt.set {K lo hi : Nat} {w : World} {n : Nat} {zs : List Int} {b m c : Nat} (h : NumAt K lo hi w (.slice (some ⟨b, 0, none⟩) m c) n zs) (i : Nat) (hi' : i < n * K) (z : Int) : NumAt K lo hi (w.setCell ⟨b, i, none⟩ (.int .i64 z)) (.slice (some ⟨b, 0, none⟩) m c) n (zs.set i z) := by
 refine ⟨by rw [List.length_set]; exact h.1, ?_⟩
 rcases h.2 with ⟨h0, _⟩ | ⟨b', c', hv, h1, h2, h3, h4⟩
 ·subst h0; simp at hi'
 ·injection hv with e1 e2 e3
  injection e1 with e1
  injection e1 with e1
  subst e1
  have hil : i < zs.length := by rw [h.1]; exact hi'
  refine .inr ⟨b, c, by rw [e2], h1, h2, ?_, fun j hj => ?_⟩
  ·simp only [List.length_set]
   rw [← setCells_one]; exact World.there_setCells h3 _ _ _
  ·have hj' : j < zs.length := by simpa using hj
   by_cases e : j = i
   ·subst e
    rw [World.cell?_setCell_same _ _ _ (h4 j hj')]; simp
   ·rw [World.cell?_setCell_other _ _ _ _ (fun e2 => e (by injection e2 with _ e3; exact e3.symm)), h4 j hj']
    rw [List.getElem_set_ne (fun e2 => e e2.symm)]
theorem NumAt.iota_of {K lo hi : Nat} {w : World} {v : Value} {n : Nat} {zs : List Int} {k : Int} (h : NumAt K lo hi w v n zs) (hj : ∀ j (h : j < zs.length), zs[j] = k + j) : NumAt K lo hi w v n (iota k (n * K)) := by
 have e : zs = iota k (n * K) := List.ext_getElem (by rw [iota_length, h.1]) (fun j h1 h2 => by rw [hj j h1, iota_get])
 rw [← e]; exact h
theorem own_num {K lo hi : Nat} {w : World} {v : Value} {n : Nat} {zs : List Int} {e : TypeId} (h : w.ownsRow lo e K v n (zs.map (Value.int .i64))) (hh : ∀ g, v.ownBlock = some g → g < hi) : NumAt K lo hi w v n zs := by
 have hl : zs.length = n * K := by have := h.1; simpa using this
 refine ⟨hl, ?_⟩
 rcases h.2 with ⟨rfl, rfl⟩ | ⟨g, cap, cur, rfl, hb, hg, h1, h2, h3, h4⟩
 ·exact .inl ⟨rfl, none, 0, rfl⟩
 ·have hc : ∀ j (hj : j < zs.length), cur[j]? = some (.int .i64 zs[j]) := fun j hj => by
   have e4 : (cur.toList.take (n * K))[j]? = (zs.map (Value.int .i64))[j]? := by rw [h4]
   rw [List.getElem?_take_of_lt (by rw [← hl]; exact hj), Array.getElem?_toList] at e4
   rw [e4]; simp [hj]
  refine .inr ⟨g, cap, rfl, hb, hh g rfl, fun j hj => ?_, fun j hj => ?_⟩
  ·rw [Nat.zero_add]
   have := hc j hj
   exact ⟨by simp [World.cell?, hg, this], by simp [World.frozen?, hg]⟩
  ·simp [World.cell?, hg, hc j hj]

set_option maxRecDepth 1000000 in
set_option maxHeartbeats 1000000 in
theorem eqDone_calls (a0 a1 : Int) (w : World) : Calls Tryz.prog 60 #[.agg #[.int .i64 a0, .int .i64 a1], .agg #[.int .i64 a0, .int .i64 a1]] w fun e w' => e = .returned (.bool true) ∧ Below w.heap.size w w' := by
 have n0 : (a0 != a0) = false := by simp
 have n1 : (a1 != a1) = false := by simp
 go_enter Tryz.func60, Tryz.ntmps60
 go_wp2
 go_ret
 exact ⟨rfl, below_on (below_1 _ _) (below_1 _ _)⟩

set_option maxRecDepth 1000000 in
set_option maxHeartbeats 2000000 in
theorem eqDoneS_calls (u v : Value) (n : Nat) (zs : List Int) (w : World) (lo1 hi1 lo2 hi2 : Nat) (hh1 : hi1 ≤ w.heap.size) (hh2 : hi2 ≤ w.heap.size) (hu : NumAt 2 lo1 hi1 w u n zs) (hv : NumAt 2 lo2 hi2 w v n zs) (hn : n ≤ 1048576) :
  Calls Tryz.prog 31 #[u, v] w fun e w' => e = .returned (.bool true) ∧ Below w.heap.size w w' := by
 obtain ⟨a, c, rfl⟩ := hu.form
 obtain ⟨a2, c2, rfl⟩ := hv.form
 have huH : Hid (∀ W, Below w.heap.size w W → NumAt 2 lo1 hi1 W (.slice a n c) n zs) := fun W hW => hu.kept ((Same.below hW).mono (Nat.zero_le _) hh1)
 have hvH : Hid (∀ W, Below w.heap.size w W → NumAt 2 lo2 hi2 W (.slice a2 n c2) n zs) := fun W hW => hv.kept ((Same.below hW).mono (Nat.zero_le _) hh2)
 have hzl : Hid (zs.length = n * 2) := hu.1
 clear hu hv hh1 hh2
 go_enter Tryz.func31, Tryz.ntmps31
 go_wp2
 go_loopw [5] (fun i wr => ∃ m : Nat, m ≤ n ∧ i = .int .i64 m ∧ Hid (Below w.heap.size w wr)) (fun i _ => n - (intOf i).toNat)
 case atStart => exact ⟨0, Nat.zero_le _, rfl, Below.refl _ _⟩
 case round =>
  obtain ⟨m, hm, rfl, hb⟩ := hrel
  by_cases hlt : m < n
  ·have hlt' : (m : Int) < (n : Int) := by omega
   have hm0 : (0 : Int) ≤ m := by omega
   obtain ⟨b, rfl, _, _, hc1⟩ := (huH.out wr hb.out).at (by omega)
   obtain ⟨b2, rfl, _, _, hc2⟩ := (hvH.out wr hb.out).at (by omega)
   have p0 := cell_regrown (hc1 (m * 2) (by omega)).1
   have q0 := cell_regrown (hc2 (m * 2) (by omega)).1
   generalize zs[m * 2]'(by rw [hzl.out]; omega) = a0 at p0 q0
   have p1 := cell_regrown (hc1 (m * 2 + 1) (by omega)).1
   have q1 := cell_regrown (hc2 (m * 2 + 1) (by omega)).1
   generalize zs[m * 2 + 1]'(by rw [hzl.out]; omega) = a1 at p1 q1
   have cE : ∀ d os, Calls Tryz.prog 60 #[.agg #[.int .i64 a0, .int .i64 a1], .agg #[.int .i64 a0, .int .i64 a1]] (Sort.grow (redrawn wr d) os) fun e w'' => e = .returned (.bool true) ∧ ∃ q : Regrown, w'' = Sort.grow (redrawn wr q.d) q.os := fun d os => Calls.regrown_of (eqDone_calls a0 a1 _)
   clear hc1 hc2
   go_wp2_with fail
   refine wp_region_quiet_below (by kernel_rfl) (by kernel_rfl) ?_
   repeat (first | go_big_quiet_step (exact cE _ _) | quiet_step (exact cE _ _))
   refine wpQuiet_nil ?_
   intro _ hw'
   obtain ⟨⟨dq, osq⟩, hw''⟩ := hw'
   subst hw''
   have hb2 : Hid (Below w.heap.size w (Sort.grow (redrawn wr dq) osq)) := below_on hb.out (below_regrown wr dq osq)
   clear cE p0 q0 p1 q1 hb
   generalize Sort.grow (redrawn wr dq) osq = V at hb2 ⊢
   go_wp2
   go_roundw
   case rel => exact ⟨m + 1, by omega, by go_num, hb2⟩
   case measure => simp [intOf]; omega
  ·go_wp2
   go_ret
   exact ⟨rfl, hb.out⟩

theorem set2_iota (ys : List Int) (k : Int) (m n : Nat) (hl : ys.length = n * 2) (hm : m < n) (h : ∀ j (hj : j < ys.length), j < m * 2 → ys[j] = k + j) : ∀ j (hj : j < (((ys.set (m * 2) (k + 2 * m)).set (m * 2 + 1) (k + 2 * m + 1))).length), j < (m + 1) * 2 → (((ys.set (m * 2) (k + 2 * m)).set (m * 2 + 1) (k + 2 * m + 1)))[j] = k + j := by
 intro j hj hjm
 have hjl : j < ys.length := by simpa using hj
 simp only [List.getElem_set]
 repeat' split
 all_goals first | omega | exact h j hjl (by omega)
set_option maxRecDepth 1000000 in
set_option maxHeartbeats 2000000 in
theorem markDoneS_calls (v : Value) (n : Nat) (zs : List Int) (k : Int) (w : World) (lo hi : Nat) (hh : hi ≤ w.heap.size) (hv : NumAt 2 lo hi w v n zs) (h0 : 0 ≤ k) (hk : k ≤ 4194304) (hn : n ≤ 5000) :
  Calls Tryz.prog 35 #[v, .int .i64 k] w fun e w' => e = .returned (.int .i64 (k + 2 * n)) ∧ Touch lo hi w w' ∧ NumAt 2 lo hi w' v n (iota k (n * 2)) := by
 obtain ⟨a, c, rfl⟩ := hv.form
 have hvH : Hid (NumAt 2 lo hi w (.slice a n c) n zs) := hv
 clear hv
 go_enter Tryz.func35, Tryz.ntmps35
 go_wp2
 go_loopw [1, 5] (fun kv i wr => ∃ (m : Nat) (ys : List Int), m ≤ n ∧ kv = .int .i64 (k + 2 * m) ∧ i = .int .i64 m ∧ Hid (Touch lo hi w wr) ∧ Hid (NumAt 2 lo hi wr (.slice a n c) n ys) ∧ Hid (∀ j (h : j < ys.length), j < m * 2 → ys[j] = k + j)) (fun _ i _ => n - (intOf i).toNat)
 case atStart => exact ⟨0, zs, Nat.zero_le _, by simp, rfl, Touch.refl _ _ _, hvH, fun j _ h => absurd h (by omega)⟩
 case round =>
  clear hvH
  obtain ⟨m, ys, hm, rfl, rfl, hT, hI, hJ⟩ := hrel
  by_cases hlt : m < n
  ·have hlt' : (m : Int) < (n : Int) := by omega
   have hm0 : (0 : Int) ≤ m := by omega
   obtain ⟨b, rfl, hb1, hb2, hcx⟩ := hI.out.at (by omega)
   clear hcx
   have hI0 := hI.out
   have hT0 := hT.out
   have hJ1 : Hid _ := set2_iota ys k m n hI.out.1 hlt hJ.out
   obtain ⟨_, e0, _, _, hc0⟩ := hI0.at (by omega)
   cases e0
   obtain ⟨hq0, hf0⟩ := hc0 (m * 2) (by omega)
   clear hc0
   have hI1 := hI0.set (m * 2) (by omega) (k + 2 * m)
   have hT1 := hT0.trans (Touch.setCell wr b (m * 2) (.int .i64 (k + 2 * m)) hb1 hb2 hq0)
   obtain ⟨y0, hy0⟩ : ∃ y, wr.cell? ⟨b, m * 2, none⟩ = some y := ⟨_, hq0⟩
   clear hq0
   obtain ⟨_, e1, _, _, hc1⟩ := hI1.at (by omega)
   cases e1
   obtain ⟨hq1, hf1⟩ := hc1 (m * 2 + 1) (by omega)
   clear hc1
   have hI2 := hI1.set (m * 2 + 1) (by omega) (k + 2 * m + 1)
   have hT2 := hT1.trans (Touch.setCell (wr.setCell ⟨b, m * 2, none⟩ (.int .i64 (k + 2 * m))) b (m * 2 + 1) (.int .i64 (k + 2 * m + 1)) hb1 hb2 hq1)
   obtain ⟨y1, hy1⟩ : ∃ y, (wr.setCell ⟨b, m * 2, none⟩ (.int .i64 (k + 2 * m))).cell? ⟨b, m * 2 + 1, none⟩ = some y := ⟨_, hq1⟩
   clear hq1
   have hTf : Hid (Touch lo hi w ((wr.setCell ⟨b, m * 2, none⟩ (.int .i64 (k + 2 * m))).setCell ⟨b, m * 2 + 1, none⟩ (.int .i64 (k + 2 * m + 1)))) := hT2
   have hIf : Hid (NumAt 2 lo hi ((wr.setCell ⟨b, m * 2, none⟩ (.int .i64 (k + 2 * m))).setCell ⟨b, m * 2 + 1, none⟩ (.int .i64 (k + 2 * m + 1))) (.slice (some ⟨b, 0, none⟩) n c) n ((ys.set (m * 2) (k + 2 * m)).set (m * 2 + 1) (k + 2 * m + 1))) := hI2
   clear hI0 hT0 hI1 hT1 hI2 hT2 hI hT hJ
   go_wp2
   go_roundw
   case rel => exact ⟨m + 1, _, by omega, by go_num, by go_num, hTf, hIf, hJ1⟩
   case measure => simp [intOf]; omega
  ·have hme : m = n := by omega
   subst hme
   have hfin : Hid (NumAt 2 lo hi wr (.slice a m c) m (iota k (m * 2))) := hI.out.iota_of (fun j h => hJ.out j h (by rw [← hI.out.1]; exact h))
   go_wp2
   go_ret
   exact ⟨rfl, hT.out, hfin.out⟩

set_option maxRecDepth 1000000 in
set_option maxHeartbeats 2000000 in
theorem heldDoneS_calls (v : Value) (n : Nat) (k : Int) (w : World) (lo hi : Nat) (hv : NumAt 2 lo hi w v n (iota k (n * 2))) (h0 : 0 ≤ k) (hk : k ≤ 4194304) (hn : n ≤ 5000) :
  Calls Tryz.prog 37 #[v, .int .i64 k] w fun e w' => e = .returned (.int .i64 (k + 2 * n)) ∧ w' = w := by
 obtain ⟨a, c, rfl⟩ := hv.form
 have hvH : Hid (NumAt 2 lo hi w (.slice a n c) n (iota k (n * 2))) := hv
 clear hv
 go_enter Tryz.func37, Tryz.ntmps37
 go_wp2
 go_loopw [1, 5] (fun kv i wr => ∃ m : Nat, m ≤ n ∧ kv = .int .i64 (k + 2 * m) ∧ i = .int .i64 m ∧ w = wr) (fun _ i _ => n - (intOf i).toNat)
 case atStart => exact ⟨0, Nat.zero_le _, by simp, rfl, rfl⟩
 case round =>
  obtain ⟨m, hm, rfl, rfl, hw⟩ := hrel
  subst hw
  rename World => wr
  by_cases hlt : m < n
  ·have hlt' : (m : Int) < (n : Int) := by omega
   have hm0 : (0 : Int) ≤ m := by omega
   obtain ⟨b, rfl, _, _, hc⟩ := hvH.out.at (by omega)
   have r0 : wr.cell? ⟨b, m * 2, none⟩ = some (.int .i64 (k + 2 * m)) := by
    have := (hc (m * 2) (by omega)).1
    rw [iota_get] at this
    rw [this]; congr 2; omega
   have z0 : ((k + 2 * m) != (k + 2 * m)) = false := by simp
   have r1 : wr.cell? ⟨b, m * 2 + 1, none⟩ = some (.int .i64 (k + 2 * m + 1)) := by
    have := (hc (m * 2 + 1) (by omega)).1
    rw [iota_get] at this
    rw [this]; congr 2; omega
   have z1 : ((k + 2 * m + 1) != (k + 2 * m + 1)) = false := by simp
   clear hc
   go_wp2
   go_roundw
   case rel => exact ⟨m + 1, by omega, by go_num, by go_num, by first | trivial | rfl⟩
   case measure => simp [intOf]; omega
  ·have hme : m = n := by omega
   subst hme
   go_wp2
   go_ret
   exact ⟨rfl, by first | trivial | rfl⟩

set_option maxRecDepth 1000000 in
set_option maxHeartbeats 1000000 in
theorem eqRace_calls (a0 a1 a2 a3 : Int) (w : World) : Calls Tryz.prog 61 #[.agg #[.int .i64 a0, .int .i64 a1, .int .i64 a2, .int .i64 a3], .agg #[.int .i64 a0, .int .i64 a1, .int .i64 a2, .int .i64 a3]] w fun e w' => e = .returned (.bool true) ∧ Below w.heap.size w w' := by
 have n0 : (a0 != a0) = false := by simp
 have n1 : (a1 != a1) = false := by simp
 have n2 : (a2 != a2) = false := by simp
 have n3 : (a3 != a3) = false := by simp
 go_enter Tryz.func61, Tryz.ntmps61
 go_wp2
 go_ret
 exact ⟨rfl, below_on (below_1 _ _) (below_1 _ _)⟩

set_option maxRecDepth 1000000 in
set_option maxHeartbeats 2000000 in
theorem eqRaceS_calls (u v : Value) (n : Nat) (zs : List Int) (w : World) (lo1 hi1 lo2 hi2 : Nat) (hh1 : hi1 ≤ w.heap.size) (hh2 : hi2 ≤ w.heap.size) (hu : NumAt 4 lo1 hi1 w u n zs) (hv : NumAt 4 lo2 hi2 w v n zs) (hn : n ≤ 1048576) :
  Calls Tryz.prog 32 #[u, v] w fun e w' => e = .returned (.bool true) ∧ Below w.heap.size w w' := by
 obtain ⟨a, c, rfl⟩ := hu.form
 obtain ⟨a2, c2, rfl⟩ := hv.form
 have huH : Hid (∀ W, Below w.heap.size w W → NumAt 4 lo1 hi1 W (.slice a n c) n zs) := fun W hW => hu.kept ((Same.below hW).mono (Nat.zero_le _) hh1)
 have hvH : Hid (∀ W, Below w.heap.size w W → NumAt 4 lo2 hi2 W (.slice a2 n c2) n zs) := fun W hW => hv.kept ((Same.below hW).mono (Nat.zero_le _) hh2)
 have hzl : Hid (zs.length = n * 4) := hu.1
 clear hu hv hh1 hh2
 go_enter Tryz.func32, Tryz.ntmps32
 go_wp2
 go_loopw [5] (fun i wr => ∃ m : Nat, m ≤ n ∧ i = .int .i64 m ∧ Hid (Below w.heap.size w wr)) (fun i _ => n - (intOf i).toNat)
 case atStart => exact ⟨0, Nat.zero_le _, rfl, Below.refl _ _⟩
 case round =>
  obtain ⟨m, hm, rfl, hb⟩ := hrel
  by_cases hlt : m < n
  ·have hlt' : (m : Int) < (n : Int) := by omega
   have hm0 : (0 : Int) ≤ m := by omega
   obtain ⟨b, rfl, _, _, hc1⟩ := (huH.out wr hb.out).at (by omega)
   obtain ⟨b2, rfl, _, _, hc2⟩ := (hvH.out wr hb.out).at (by omega)
   have p0 := cell_regrown (hc1 (m * 4) (by omega)).1
   have q0 := cell_regrown (hc2 (m * 4) (by omega)).1
   generalize zs[m * 4]'(by rw [hzl.out]; omega) = a0 at p0 q0
   have p1 := cell_regrown (hc1 (m * 4 + 1) (by omega)).1
   have q1 := cell_regrown (hc2 (m * 4 + 1) (by omega)).1
   generalize zs[m * 4 + 1]'(by rw [hzl.out]; omega) = a1 at p1 q1
   have p2 := cell_regrown (hc1 (m * 4 + 2) (by omega)).1
   have q2 := cell_regrown (hc2 (m * 4 + 2) (by omega)).1
   generalize zs[m * 4 + 2]'(by rw [hzl.out]; omega) = a2 at p2 q2
   have p3 := cell_regrown (hc1 (m * 4 + 3) (by omega)).1
   have q3 := cell_regrown (hc2 (m * 4 + 3) (by omega)).1
   generalize zs[m * 4 + 3]'(by rw [hzl.out]; omega) = a3 at p3 q3
   have cE : ∀ d os, Calls Tryz.prog 61 #[.agg #[.int .i64 a0, .int .i64 a1, .int .i64 a2, .int .i64 a3], .agg #[.int .i64 a0, .int .i64 a1, .int .i64 a2, .int .i64 a3]] (Sort.grow (redrawn wr d) os) fun e w'' => e = .returned (.bool true) ∧ ∃ q : Regrown, w'' = Sort.grow (redrawn wr q.d) q.os := fun d os => Calls.regrown_of (eqRace_calls a0 a1 a2 a3 _)
   clear hc1 hc2
   go_wp2_with fail
   refine wp_region_quiet_below (by kernel_rfl) (by kernel_rfl) ?_
   repeat (first | go_big_quiet_step (exact cE _ _) | quiet_step (exact cE _ _))
   refine wpQuiet_nil ?_
   intro _ hw'
   obtain ⟨⟨dq, osq⟩, hw''⟩ := hw'
   subst hw''
   have hb2 : Hid (Below w.heap.size w (Sort.grow (redrawn wr dq) osq)) := below_on hb.out (below_regrown wr dq osq)
   clear cE p0 q0 p1 q1 p2 q2 p3 q3 hb
   generalize Sort.grow (redrawn wr dq) osq = V at hb2 ⊢
   go_wp2
   go_roundw
   case rel => exact ⟨m + 1, by omega, by go_num, hb2⟩
   case measure => simp [intOf]; omega
  ·go_wp2
   go_ret
   exact ⟨rfl, hb.out⟩

theorem set4_iota (ys : List Int) (k : Int) (m n : Nat) (hl : ys.length = n * 4) (hm : m < n) (h : ∀ j (hj : j < ys.length), j < m * 4 → ys[j] = k + j) : ∀ j (hj : j < (((((ys.set (m * 4) (k + 4 * m)).set (m * 4 + 1) (k + 4 * m + 1)).set (m * 4 + 2) (k + 4 * m + 1 + 1)).set (m * 4 + 3) (k + 4 * m + 1 + 1 + 1))).length), j < (m + 1) * 4 → (((((ys.set (m * 4) (k + 4 * m)).set (m * 4 + 1) (k + 4 * m + 1)).set (m * 4 + 2) (k + 4 * m + 1 + 1)).set (m * 4 + 3) (k + 4 * m + 1 + 1 + 1)))[j] = k + j := by
 intro j hj hjm
 have hjl : j < ys.length := by simpa using hj
 simp only [List.getElem_set]
 repeat' split
 all_goals first | omega | exact h j hjl (by omega)
set_option maxRecDepth 1000000 in
set_option maxHeartbeats 2000000 in
theorem markRaceS_calls (v : Value) (n : Nat) (zs : List Int) (k : Int) (w : World) (lo hi : Nat) (hh : hi ≤ w.heap.size) (hv : NumAt 4 lo hi w v n zs) (h0 : 0 ≤ k) (hk : k ≤ 4194304) (hn : n ≤ 5000) :
  Calls Tryz.prog 36 #[v, .int .i64 k] w fun e w' => e = .returned (.int .i64 (k + 4 * n)) ∧ Touch lo hi w w' ∧ NumAt 4 lo hi w' v n (iota k (n * 4)) := by
 obtain ⟨a, c, rfl⟩ := hv.form
 have hvH : Hid (NumAt 4 lo hi w (.slice a n c) n zs) := hv
 clear hv
 go_enter Tryz.func36, Tryz.ntmps36
 go_wp2
 go_loopw [1, 5] (fun kv i wr => ∃ (m : Nat) (ys : List Int), m ≤ n ∧ kv = .int .i64 (k + 4 * m) ∧ i = .int .i64 m ∧ Hid (Touch lo hi w wr) ∧ Hid (NumAt 4 lo hi wr (.slice a n c) n ys) ∧ Hid (∀ j (h : j < ys.length), j < m * 4 → ys[j] = k + j)) (fun _ i _ => n - (intOf i).toNat)
 case atStart => exact ⟨0, zs, Nat.zero_le _, by simp, rfl, Touch.refl _ _ _, hvH, fun j _ h => absurd h (by omega)⟩
 case round =>
  clear hvH
  obtain ⟨m, ys, hm, rfl, rfl, hT, hI, hJ⟩ := hrel
  by_cases hlt : m < n
  ·have hlt' : (m : Int) < (n : Int) := by omega
   have hm0 : (0 : Int) ≤ m := by omega
   obtain ⟨b, rfl, hb1, hb2, hcx⟩ := hI.out.at (by omega)
   clear hcx
   have hI0 := hI.out
   have hT0 := hT.out
   have hJ1 : Hid _ := set4_iota ys k m n hI.out.1 hlt hJ.out
   obtain ⟨_, e0, _, _, hc0⟩ := hI0.at (by omega)
   cases e0
   obtain ⟨hq0, hf0⟩ := hc0 (m * 4) (by omega)
   clear hc0
   have hI1 := hI0.set (m * 4) (by omega) (k + 4 * m)
   have hT1 := hT0.trans (Touch.setCell wr b (m * 4) (.int .i64 (k + 4 * m)) hb1 hb2 hq0)
   obtain ⟨y0, hy0⟩ : ∃ y, wr.cell? ⟨b, m * 4, none⟩ = some y := ⟨_, hq0⟩
   clear hq0
   obtain ⟨_, e1, _, _, hc1⟩ := hI1.at (by omega)
   cases e1
   obtain ⟨hq1, hf1⟩ := hc1 (m * 4 + 1) (by omega)
   clear hc1
   have hI2 := hI1.set (m * 4 + 1) (by omega) (k + 4 * m + 1)
   have hT2 := hT1.trans (Touch.setCell (wr.setCell ⟨b, m * 4, none⟩ (.int .i64 (k + 4 * m))) b (m * 4 + 1) (.int .i64 (k + 4 * m + 1)) hb1 hb2 hq1)
   obtain ⟨y1, hy1⟩ : ∃ y, (wr.setCell ⟨b, m * 4, none⟩ (.int .i64 (k + 4 * m))).cell? ⟨b, m * 4 + 1, none⟩ = some y := ⟨_, hq1⟩
   clear hq1
   obtain ⟨_, e2, _, _, hc2⟩ := hI2.at (by omega)
   cases e2
   obtain ⟨hq2, hf2⟩ := hc2 (m * 4 + 2) (by omega)
   clear hc2
   have hI3 := hI2.set (m * 4 + 2) (by omega) (k + 4 * m + 1 + 1)
   have hT3 := hT2.trans (Touch.setCell ((wr.setCell ⟨b, m * 4, none⟩ (.int .i64 (k + 4 * m))).setCell ⟨b, m * 4 + 1, none⟩ (.int .i64 (k + 4 * m + 1))) b (m * 4 + 2) (.int .i64 (k + 4 * m + 1 + 1)) hb1 hb2 hq2)
   obtain ⟨y2, hy2⟩ : ∃ y, ((wr.setCell ⟨b, m * 4, none⟩ (.int .i64 (k + 4 * m))).setCell ⟨b, m * 4 + 1, none⟩ (.int .i64 (k + 4 * m + 1))).cell? ⟨b, m * 4 + 2, none⟩ = some y := ⟨_, hq2⟩
   clear hq2
   obtain ⟨_, e3, _, _, hc3⟩ := hI3.at (by omega)
   cases e3
   obtain ⟨hq3, hf3⟩ := hc3 (m * 4 + 3) (by omega)
   clear hc3
   have hI4 := hI3.set (m * 4 + 3) (by omega) (k + 4 * m + 1 + 1 + 1)
   have hT4 := hT3.trans (Touch.setCell (((wr.setCell ⟨b, m * 4, none⟩ (.int .i64 (k + 4 * m))).setCell ⟨b, m * 4 + 1, none⟩ (.int .i64 (k + 4 * m + 1))).setCell ⟨b, m * 4 + 2, none⟩ (.int .i64 (k + 4 * m + 1 + 1))) b (m * 4 + 3) (.int .i64 (k + 4 * m + 1 + 1 + 1)) hb1 hb2 hq3)
   obtain ⟨y3, hy3⟩ : ∃ y, (((wr.setCell ⟨b, m * 4, none⟩ (.int .i64 (k + 4 * m))).setCell ⟨b, m * 4 + 1, none⟩ (.int .i64 (k + 4 * m + 1))).setCell ⟨b, m * 4 + 2, none⟩ (.int .i64 (k + 4 * m + 1 + 1))).cell? ⟨b, m * 4 + 3, none⟩ = some y := ⟨_, hq3⟩
   clear hq3
   have hTf : Hid (Touch lo hi w ((((wr.setCell ⟨b, m * 4, none⟩ (.int .i64 (k + 4 * m))).setCell ⟨b, m * 4 + 1, none⟩ (.int .i64 (k + 4 * m + 1))).setCell ⟨b, m * 4 + 2, none⟩ (.int .i64 (k + 4 * m + 1 + 1))).setCell ⟨b, m * 4 + 3, none⟩ (.int .i64 (k + 4 * m + 1 + 1 + 1)))) := hT4
   have hIf : Hid (NumAt 4 lo hi ((((wr.setCell ⟨b, m * 4, none⟩ (.int .i64 (k + 4 * m))).setCell ⟨b, m * 4 + 1, none⟩ (.int .i64 (k + 4 * m + 1))).setCell ⟨b, m * 4 + 2, none⟩ (.int .i64 (k + 4 * m + 1 + 1))).setCell ⟨b, m * 4 + 3, none⟩ (.int .i64 (k + 4 * m + 1 + 1 + 1))) (.slice (some ⟨b, 0, none⟩) n c) n ((((ys.set (m * 4) (k + 4 * m)).set (m * 4 + 1) (k + 4 * m + 1)).set (m * 4 + 2) (k + 4 * m + 1 + 1)).set (m * 4 + 3) (k + 4 * m + 1 + 1 + 1))) := hI4
   clear hI0 hT0 hI1 hT1 hI2 hT2 hI3 hT3 hI4 hT4 hI hT hJ
   go_wp2
   go_roundw
   case rel => exact ⟨m + 1, _, by omega, by go_num, by go_num, hTf, hIf, hJ1⟩
   case measure => simp [intOf]; omega
  ·have hme : m = n := by omega
   subst hme
   have hfin : Hid (NumAt 4 lo hi wr (.slice a m c) m (iota k (m * 4))) := hI.out.iota_of (fun j h => hJ.out j h (by rw [← hI.out.1]; exact h))
   go_wp2
   go_ret
   exact ⟨rfl, hT.out, hfin.out⟩

set_option maxRecDepth 1000000 in
set_option maxHeartbeats 2000000 in
theorem heldRaceS_calls (v : Value) (n : Nat) (k : Int) (w : World) (lo hi : Nat) (hv : NumAt 4 lo hi w v n (iota k (n * 4))) (h0 : 0 ≤ k) (hk : k ≤ 4194304) (hn : n ≤ 5000) :
  Calls Tryz.prog 38 #[v, .int .i64 k] w fun e w' => e = .returned (.int .i64 (k + 4 * n)) ∧ w' = w := by
 obtain ⟨a, c, rfl⟩ := hv.form
 have hvH : Hid (NumAt 4 lo hi w (.slice a n c) n (iota k (n * 4))) := hv
 clear hv
 go_enter Tryz.func38, Tryz.ntmps38
 go_wp2
 go_loopw [1, 5] (fun kv i wr => ∃ m : Nat, m ≤ n ∧ kv = .int .i64 (k + 4 * m) ∧ i = .int .i64 m ∧ w = wr) (fun _ i _ => n - (intOf i).toNat)
 case atStart => exact ⟨0, Nat.zero_le _, by simp, rfl, rfl⟩
 case round =>
  obtain ⟨m, hm, rfl, rfl, hw⟩ := hrel
  subst hw
  rename World => wr
  by_cases hlt : m < n
  ·have hlt' : (m : Int) < (n : Int) := by omega
   have hm0 : (0 : Int) ≤ m := by omega
   obtain ⟨b, rfl, _, _, hc⟩ := hvH.out.at (by omega)
   have r0 : wr.cell? ⟨b, m * 4, none⟩ = some (.int .i64 (k + 4 * m)) := by
    have := (hc (m * 4) (by omega)).1
    rw [iota_get] at this
    rw [this]; congr 2; omega
   have z0 : ((k + 4 * m) != (k + 4 * m)) = false := by simp
   have r1 : wr.cell? ⟨b, m * 4 + 1, none⟩ = some (.int .i64 (k + 4 * m + 1)) := by
    have := (hc (m * 4 + 1) (by omega)).1
    rw [iota_get] at this
    rw [this]; congr 2; omega
   have z1 : ((k + 4 * m + 1) != (k + 4 * m + 1)) = false := by simp
   have r2 : wr.cell? ⟨b, m * 4 + 2, none⟩ = some (.int .i64 (k + 4 * m + 1 + 1)) := by
    have := (hc (m * 4 + 2) (by omega)).1
    rw [iota_get] at this
    rw [this]; congr 2; omega
   have z2 : ((k + 4 * m + 1 + 1) != (k + 4 * m + 1 + 1)) = false := by simp
   have r3 : wr.cell? ⟨b, m * 4 + 3, none⟩ = some (.int .i64 (k + 4 * m + 1 + 1 + 1)) := by
    have := (hc (m * 4 + 3) (by omega)).1
    rw [iota_get] at this
    rw [this]; congr 2; omega
   have z3 : ((k + 4 * m + 1 + 1 + 1) != (k + 4 * m + 1 + 1 + 1)) = false := by simp
   clear hc
   go_wp2
   go_roundw
   case rel => exact ⟨m + 1, by omega, by go_num, by go_num, by first | trivial | rfl⟩
   case measure => simp [intOf]; omega
  ·have hme : m = n := by omega
   subst hme
   go_wp2
   go_ret
   exact ⟨rfl, by first | trivial | rfl⟩
end Go.Proofs.YtknbchheoloaoaaGreat

/- The answers of Order compared, marked and looked at; marks on a litmus test. -/
namespace Go.Proofs.YtknbchheoloaoaaGreat
set_option linter.unusedVariables false
open Go.ChangeShapes Go.WideShapes Go.ChangeAt Go.RowKit

theorem elemT2 : ∃ i z, Tryz.prog.info? 2 = some i ∧ i.zero = some z ∧ i.size = 1 ∧ i.bytes = 8 := by
 obtain ⟨i0, hi0⟩ : ∃ i, Tryz.prog.info? 2 = some i := Option.isSome_iff_exists.1 (by kernel_rfl)
 obtain ⟨z, hz⟩ : ∃ z, (Tryz.prog.info? 2).bind (·.zero) = some z := Option.isSome_iff_exists.1 (by kernel_rfl)
 refine ⟨i0, z, hi0, ?_, ?_, ?_⟩
 ·rw [hi0] at hz; exact hz
 ·have : (Tryz.prog.info? 2).map (·.size) = some 1 := by kernel_rfl
  rw [hi0] at this; exact Option.some.inj this
 ·have : (Tryz.prog.info? 2).map (·.bytes) = some 8 := by kernel_rfl
  rw [hi0] at this; exact Option.some.inj this

set_option maxRecDepth 1000000 in
set_option maxHeartbeats 1000000 in
theorem toInts_calls (v : Value) (xs : List Int) (w : World) (base : Nat) (hbase : base ≤ w.heap.size) (ht : ListAt IntR 1 false 0 base w v xs) (hn : xs.length ≤ 1048576) :
  Calls Tryz.prog 7 #[v] w fun e w' => ∃ u, e = .returned u ∧ ListAt IntR 1 true w.heap.size w'.heap.size w' u xs ∧ Below w.heap.size w w' := by
 obtain ⟨i0, z0, hi0, hz0, hz1, hz2⟩ := elemT2
 obtain ⟨a, c, rfl⟩ := ht.form
 have htH : Hid (∀ wr, Below w.heap.size w wr → ListAt IntR 1 false 0 base wr (.slice a xs.length c) xs) := fun wr hw => ht.kept IntR.stable (Nat.le_refl _) (Nat.le_refl _) ((Same.below hw).mono (Nat.zero_le _) hbase)
 clear ht hbase
 go_enter Tryz.func7, Tryz.ntmps7
 go_wp2_with (refine wpList_make_full _ rfl (.tmp 6) (.tmp 6) 25 rfl w.heap.size 2 i0 z0 1 Tryz.underlying25 hi0 hz0 hz1 .i64 .i64 xs.length xs.length xs.length rfl rfl rfl rfl (by rw [hz2]; omega) (by unfold maxLen; omega) (Nat.le_refl _) ?_; intro w1 hown1 hgrow1)
 have hFH : Hid (FilledL IntR 1 xs w 0 w1) := FilledL.start hown1 hgrow1
 clear hown1 hgrow1 hi0 hz0 hz1 hz2
 go_loopw [4] (fun i wr => ∃ m : Nat, m ≤ xs.length ∧ i = .int .i64 m ∧ Hid (FilledL IntR 1 xs w m wr)) (fun i _ => xs.length - (intOf i).toNat)
 case atStart => exact ⟨0, Nat.zero_le _, rfl, hFH⟩
 case round =>
  obtain ⟨m, hm, rfl, hF⟩ := hrel
  by_cases hlt : m < xs.length
  ·obtain ⟨b, off, row, rfl, hbb, hrl, hrr, hrx⟩ := (htH.out wr hF.out.1).at m hlt
   have hlt' : (m : Int) < (xs.length : Int) := by omega
   have hrow : row = [.int .i64 xs[m]] := hrx
   have hcell : wr.cell? ⟨b, off + m, none⟩ = some (.int .i64 xs[m]) := by simpa using hrr 0 (.int .i64 xs[m]) (by rw [hrow]; rfl)
   have hroom := hF.out.room hlt (Below.refl _ _) 0 (by omega)
   have hsome : ∃ u, wr.cell? ⟨w.heap.size, m, none⟩ = some u := Option.isSome_iff_exists.1 (by simpa using hroom.1)
   have hfz : wr.frozen? ⟨w.heap.size, m, none⟩ = false := by simpa using hroom.2
   obtain ⟨u, hu⟩ := hsome
   have hnx : FilledL IntR 1 xs w (m + 1) (wr.setCells w.heap.size (m * 1) [.int .i64 xs[m]]) := hF.out.next IntR.stable hlt (Below.refl _ _) rfl rfl
   have hnxH : Hid (FilledL IntR 1 xs w (m + 1) (wr.setCell ⟨w.heap.size, m, none⟩ (.int .i64 xs[m]))) := by
    have e : m * 1 = m := Nat.mul_one m
    rw [e] at hnx; exact hnx
   obtain ⟨z, hz⟩ : ∃ z, z = xs[m] := ⟨_, rfl⟩
   rw [← hz] at hcell hnxH
   clear hz hnx hrow hrx hrr hrl hroom
   go_wp2
   go_roundw
   case rel => exact ⟨m + 1, by omega, by go_num, hnxH⟩
   case measure => simp [intOf]; omega
  ·have hend := hF.out
   go_wp2
   go_ret
   exact ⟨_, rfl, hend.done IntR.stable (by omega), hend.1⟩

def LitL.sz (x : LitL) : Nat := sumL List.length x.thr
def LitL.upto (x : LitL) : Prop := x.thr.length ≤ 9223372036854775807 ∧ ∀ y ∈ x.thr, y.length ≤ 9223372036854775807
theorem LitL.small_of_sz {x : LitL} (h : x.sz ≤ 1048576) : x.small := by
 unfold LitL.sz sumL at h
 exact ⟨by omega, fun y hy => by have := sum_mem_le List.length x.thr y hy; omega⟩

set_option maxRecDepth 1000000 in
theorem szLit_calls (x : LitL) (hy : x.upto) : ElemSz 4 4 LitR LitL.sz x := by
 intro w row own lo hi l hh hx hl hl0 hl1
 obtain ⟨p, rfl, hp⟩ := hx
 have c1 : Hid (∀ (W : World), Below w.heap.size w W → Calls Tryz.prog 16 #[p, .int .i64 l] W fun e w' => SzQ l (sumL List.length x.thr) e ∧ Below W.heap.size W w') := fun W hW =>
  szActSS_calls p x.thr W own lo hi l (Nat.le_trans hh hW.size) (hp.kept ThrR.stable (Nat.le_refl _) (Nat.le_refl _) ((Same.below hW).mono (Nat.zero_le _) hh)) hy.1 hl0 hl1 (fun y hy1 => szActS_calls y (hy.2 y hy1))
 obtain ⟨a1, k1, rfl⟩ := hp.form
 unfold LitL.sz
 generalize sumL List.length x.thr = n1 at *
 generalize x.thr.length = m1 at *
 clear hp hl hh hy
 by_cases h1 : l < n1
 ·go_enter Tryz.func4, Tryz.ntmps4
  go_wp2_with (first | (go_at_call 16; refine (c1.out _ (below_1 _ _)).mono ?_; rintro e w1 ⟨⟨r, rfl, hr1, hr2⟩, hb1⟩; obtain rfl := hr1 h1))
  go_ret
  exact ⟨SzQ.neg h1, below_on2 (below_1 _ _) hb1⟩
 ·go_enter Tryz.func4, Tryz.ntmps4
  go_wp2_with (first | (go_at_call 16; refine (c1.out _ (below_1 _ _)).mono ?_; rintro e w1 ⟨⟨r, rfl, hr1, hr2⟩, hb1⟩; obtain rfl := hr2 (by omega)))
  go_ret
  exact ⟨SzQ.pos (by omega) rfl, below_on2 (below_1 _ _) hb1⟩

set_option maxRecDepth 1000000 in
set_option maxHeartbeats 1000000 in
theorem markActS_calls (v : Value) (n : Nat) (k : Int) (w : World) (lo hi : Nat) (hh : hi ≤ w.heap.size) (hv : RowAt 3 lo hi w v n) (h0 : 0 ≤ k) (hk : k ≤ 4194304) (hn : n ≤ 1048576) :
  Calls Tryz.prog 63 #[v, .int .i64 k] w fun e w' => e = .returned (.int .i64 (k + 3 * n)) ∧ Touch lo hi w w' := by
 obtain ⟨b, c, rfl, hb1, hb2, ht⟩ := hv
 have htH : Hid (∀ W, Touch lo hi w W → W.there b 0 (n * 3)) := fun W hW => hW.there (by omega) ht
 clear hh ht
 go_enter Tryz.func63, Tryz.ntmps63
 go_wp2
 go_loopw [1, 5] (fun kv i wr => ∃ m : Nat, m ≤ n ∧ kv = .int .i64 (k + 3 * m) ∧ i = .int .i64 m ∧ Hid (Touch lo hi w wr)) (fun _ i _ => n - (intOf i).toNat)
 case atStart => exact ⟨0, Nat.zero_le _, by simp, rfl, Touch.refl _ _ _⟩
 case round =>
  obtain ⟨m, hm, rfl, rfl, hT⟩ := hrel
  by_cases hlt : m < n
  ·have hlt' : (m : Int) < (n : Int) := by omega
   have hm0 : (0 : Int) ≤ m := by omega
   have hT0 := hT.out
   obtain ⟨⟨q0, hq0⟩, hf0⟩ := there_cell (htH.out _ hT0) (m * 3) (by omega)
   have hT1 := hT0.trans (Touch.setCell wr b (m * 3) (.int .i64 (k + 3 * m)) hb1 hb2 hq0)
   obtain ⟨⟨q1, hq1⟩, hf1⟩ := there_cell (htH.out _ hT1) (m * 3 + 1) (by omega)
   have hT2 := hT1.trans (Touch.setCell (wr.setCell ⟨b, m * 3, none⟩ (.int .i64 (k + 3 * m))) b (m * 3 + 1) (.int .i64 (k + 3 * m + 1)) hb1 hb2 hq1)
   obtain ⟨⟨q2, hq2⟩, hf2⟩ := there_cell (htH.out _ hT2) (m * 3 + 2) (by omega)
   have hT3 := hT2.trans (Touch.setCell ((wr.setCell ⟨b, m * 3, none⟩ (.int .i64 (k + 3 * m))).setCell ⟨b, m * 3 + 1, none⟩ (.int .i64 (k + 3 * m + 1))) b (m * 3 + 2) (.int .i64 (k + 3 * m + 1 + 1)) hb1 hb2 hq2)
   have hTf : Hid (Touch lo hi w (((wr.setCell ⟨b, m * 3, none⟩ (.int .i64 (k + 3 * m))).setCell ⟨b, m * 3 + 1, none⟩ (.int .i64 (k + 3 * m + 1))).setCell ⟨b, m * 3 + 2, none⟩ (.int .i64 (k + 3 * m + 1 + 1)))) := hT3
   clear hT0 hT1 hT2 hT3 hT
   go_wp2
   go_roundw
   case rel => exact ⟨m + 1, by omega, by go_num, by go_num, hTf⟩
   case measure => simp [intOf]; omega
  ·have hme : m = n := by omega
   subst hme
   go_wp2
   go_ret
   exact ⟨rfl, hT.out⟩

theorem sum3 (xs : List (List ActL)) (h : sumL List.length xs ≤ 1048576) : xs.length ≤ 1048576 ∧ (xs.map List.length).sum ≤ 1048576 := by unfold sumL at h; omega
set_option maxRecDepth 1000000 in
set_option maxHeartbeats 2000000 in
theorem markActSS_calls (v : Value) (xs : List (List ActL)) (w : World) (lo hi : Nat) (hh : hi ≤ w.heap.size) (hv : ListAt ThrR 1 true lo hi w v xs) (hn : sumL List.length xs ≤ 1048576) :
  Calls Tryz.prog 34 #[v, .int .i64 1] w fun e w' => (∃ r : Int, e = .returned (.int .i64 r) ∧ 0 ≤ r ∧ r ≤ 4194304) ∧ Touch lo hi w w' := by
 rcases hv with ⟨hv, _⟩ | ⟨b, off, c, rfl, hb1, hb2, ho, hc⟩
 ·cases hv
 obtain ⟨hz, ht, _⟩ := ho rfl
 subst hz
 have hrow : Hid (∀ j (h : j < xs.length), ∃ u uc, RowAt 3 (b + 1) hi w (.slice u xs[j].length uc) xs[j].length ∧ w.cell? ⟨b, j, none⟩ = some (.slice u xs[j].length uc)) := fun j h => by
  obtain ⟨row, hl, hr, _, hy⟩ := hc j h
  obtain ⟨u, rfl, hu⟩ := hy rfl
  obtain ⟨ua, uc, rfl⟩ := hu.form
  exact ⟨ua, uc, hu.rowAt, by simpa using hr 0 _ rfl⟩
 have hhH : Hid (hi ≤ w.heap.size) := hh
 have hbs : Hid (b < w.heap.size) := Nat.lt_of_lt_of_le hb2 hh
 obtain ⟨hn1, hn2⟩ := sum3 xs hn
 have hsum : Hid (∀ m (h : m < xs.length), ((xs.take (m + 1)).map List.length).sum = ((xs.take m).map List.length).sum + xs[m].length) := fun m h => sum_take List.length xs m h
 have hsle : Hid (∀ m, ((xs.take m).map List.length).sum ≤ 1048576) := fun m => Nat.le_trans (sum_take_le List.length xs m) hn2
 clear hh hc ho ht hn
 go_enter Tryz.func34, Tryz.ntmps34
 go_wp2
 go_loopw [1, 5] (fun kv i wr => ∃ m z : Nat, m ≤ xs.length ∧ kv = .int .i64 z ∧ Hid (z = 1 + 3 * ((xs.take m).map List.length).sum) ∧ i = .int .i64 m ∧ Hid (Touch (b + 1) hi w wr)) (fun _ i _ => xs.length - (intOf i).toNat)
 case atStart => exact ⟨0, 1, Nat.zero_le _, rfl, by simp [Hid], rfl, Touch.refl _ _ _⟩
 case round =>
  obtain ⟨m, z, hm, rfl, hz, rfl, hT⟩ := hrel
  have hzb : (z : Int) ≤ 4194304 := by have := hz.out; have := hsle.out m; omega
  by_cases hlt : m < xs.length
  ·have hlt' : (m : Int) < (xs.length : Int) := by omega
   have hm0 : (0 : Int) ≤ m := by omega
   obtain ⟨u, uc, hu, hcell⟩ := hrow.out m hlt
   have hc1 : wr.cell? ⟨b, m, none⟩ = some (.slice u xs[m].length uc) := (((hT.out.2.2 ⟨b, m, none⟩ hbs.out).1 (.inl (Nat.lt_succ_self b))).trans hcell)
   have hcall : Hid (Calls Tryz.prog 63 #[.slice u xs[m].length uc, .int .i64 (z : Int)] wr fun e w' => e = .returned (.int .i64 ((z : Int) + 3 * (xs[m].length : Int))) ∧ Touch (b + 1) hi wr w') := markActS_calls _ _ _ wr (b + 1) hi (Nat.le_trans hhH.out hT.out.1) (hu.touch hhH.out hT.out) (by omega) hzb (by have := hsle.out (m + 1); have := hsum.out m hlt; omega)
   have hz2 : Hid (z + 3 * xs[m].length = 1 + 3 * ((xs.take (m + 1)).map List.length).sum) := by show _ = _; rw [hsum.out m hlt, hz.out]; omega
   have hzb2 : (z : Int) + 3 * (xs[m].length : Int) ≤ 4194304 := by have := hz2.out; have := hsle.out (m + 1); omega
   generalize xs[m].length = ln at *
   clear hu hcell hz
   go_wp2_with (go_at_call 63; refine (show Calls _ _ _ _ _ from hcall.out).mono ?_; rintro e w2 ⟨rfl, hT2⟩)
   go_roundw
   case rel => exact ⟨m + 1, z + 3 * ln, by omega, by go_num, hz2, by go_num, hT.out.trans hT2⟩
   case measure => simp [intOf]; omega
  ·go_wp2
   go_ret
   exact ⟨⟨_, rfl, by omega, hzb⟩, hT.out.mono (Nat.le_succ_of_le hb1) (Nat.le_refl _)⟩
set_option maxRecDepth 1000000 in
set_option maxHeartbeats 2000000 in
theorem markLit_calls (x : LitL) (ta : Option Addr) (tc : Nat) (w : World) (lo hi : Nat) (hh : hi ≤ w.heap.size) (hv : ListAt ThrR 1 true lo hi w (.slice ta x.thr.length tc) x.thr) (hn : x.sz ≤ 1048576) :
  Calls Tryz.prog 12 #[.agg #[.int .i64 x.vars, .int .i64 x.vol, .int .i64 x.locks, .slice ta x.thr.length tc], .int .i64 1] w fun e w' => (∃ r : Int, e = .returned (.int .i64 r) ∧ 0 ≤ r ∧ r ≤ 4194304) ∧ Touch lo hi w w' := by
 have hcall : Hid (∀ W, Below w.heap.size w W → Calls Tryz.prog 34 #[.slice ta x.thr.length tc, .int .i64 1] W fun e w' => (∃ r : Int, e = .returned (.int .i64 r) ∧ 0 ≤ r ∧ r ≤ 4194304) ∧ Touch lo hi W w') := fun W hW => markActSS_calls _ x.thr W lo hi (Nat.le_trans hh hW.size) (hv.kept ThrR.stable (Nat.le_refl _) (Nat.le_refl _) ((Same.below hW).mono (Nat.zero_le _) hh)) hn
 have hlo : Hid (lo ≤ w.heap.size) := by
  rcases hv with ⟨h, _⟩ | ⟨b, off, c, _, h1, h2, _⟩
  ·cases h
  ·exact Nat.le_trans h1 (Nat.le_of_lt (Nat.lt_of_lt_of_le h2 hh))
 clear hv hh hn
 go_enter Tryz.func12, Tryz.ntmps12
 go_wp2_with (go_at_call 34; refine (hcall.out _ (below_1 _ _)).mono ?_; rintro e w2 ⟨⟨r, rfl, hr0, hr1⟩, hT2⟩)
 go_ret
 exact ⟨⟨r, rfl, hr0, hr1⟩, (Touch.below (below_1 _ _) hlo.out).trans hT2⟩
def OrdN (lo hi : Nat) (w : World) (v : Value) (n1 : Nat) (z1 : List Int) (n2 : Nat) (z2 : List Int) : Prop := ∃ v1 v2 l1 h1 l2 h2, v = .agg #[v1, v2] ∧ NumAt 2 l1 h1 w v1 n1 z1 ∧ NumAt 4 l2 h2 w v2 n2 z2 ∧ lo ≤ l1 ∧ h1 ≤ hi ∧ lo ≤ l2 ∧ h2 ≤ hi ∧ (h1 ≤ l2 ∨ h2 ≤ l1)
theorem OrdN.kept {lo hi : Nat} {w w' : World} {v : Value} {n1 n2 : Nat} {z1 z2 : List Int} (h : OrdN lo hi w v n1 z1 n2 z2) (hs : Same lo hi w w') : OrdN lo hi w' v n1 z1 n2 z2 := by
 obtain ⟨v1, v2, l1, h1, l2, h2, e, a, b, c1, c2, c3, c4, c5⟩ := h
 exact ⟨v1, v2, l1, h1, l2, h2, e, a.kept (hs.mono c1 c2), b.kept (hs.mono c3 c4), c1, c2, c3, c4, c5⟩
theorem OrdN.mono {lo hi : Nat} {w : World} {v : Value} {n1 n2 : Nat} {z1 z2 : List Int} {lo' hi' : Nat} (h : OrdN lo hi w v n1 z1 n2 z2) (g1 : lo' ≤ lo) (g2 : hi ≤ hi') : OrdN lo' hi' w v n1 z1 n2 z2 := by
 obtain ⟨v1, v2, l1, h1, l2, h2, e, a, b, c1, c2, c3, c4, c5⟩ := h
 exact ⟨v1, v2, l1, h1, l2, h2, e, a, b, by omega, by omega, by omega, by omega, c5⟩
def doneZ (ds : List DoneL) : List Int := ds.flatMap fun d => [(d.t : Int), (d.k : Int)]
def raceZ (rs : List RaceL) : List Int := rs.flatMap RaceL.z
theorem doneV_z (ds : List DoneL) : doneV ds = (doneZ ds).map (Value.int .i64) := by
 induction ds with
 | nil => rfl
 | cons d l ih => simp only [doneV, doneZ, List.flatMap_cons, List.map_append, List.map_cons, List.map_nil] at ih ⊢; rw [ih]
theorem racesC_z (rs : List RaceL) : racesC rs = (raceZ rs).map (Value.int .i64) := by
 induction rs with
 | nil => rfl
 | cons r l ih => simp only [racesC, raceZ, List.flatMap_cons, List.map_append, RaceL.v, RaceL.z, List.map_cons, List.map_nil] at ih ⊢; rw [ih]
theorem ordN_of {lo hi : Nat} {w : World} {v1 v2 : Value} {ds : List DoneL} {rs : List RaceL} (h1 : w.ownsRow lo 53 2 v1 ds.length (doneV ds)) (h2 : RacesAt lo w v2 rs) (hh : w.heap.size ≤ hi) (hlo : lo ≤ hi) : OrdN lo hi w (.agg #[v1, v2]) ds.length (doneZ ds) rs.length (raceZ rs) := by
 rw [doneV_z] at h1
 have h2' : w.ownsRow lo 89 4 v2 rs.length ((raceZ rs).map (Value.int .i64)) := by rw [← racesC_z]; exact h2
 cases e1 : v1.ownBlock with
 | none =>
  cases e2 : v2.ownBlock with
  | none => exact ⟨v1, v2, lo, lo, lo, lo, rfl, own_num h1 (fun g hg => by rw [e1] at hg; cases hg), own_num h2' (fun g hg => by rw [e2] at hg; cases hg), Nat.le_refl _, hlo, Nat.le_refl _, hlo, .inl (Nat.le_refl _)⟩
  | some g2 =>
   have l2 := World.ownsRow.lt h2' g2 e2
   exact ⟨v1, v2, lo, lo, g2, g2 + 1, rfl, own_num h1 (fun g hg => by rw [e1] at hg; cases hg), own_num (own_from h2' (fun g hg => by rw [e2] at hg; cases hg; exact Nat.le_refl _)) (fun g hg => by rw [e2] at hg; cases hg; exact Nat.lt_succ_self _), Nat.le_refl _, hlo, l2.1, by omega, .inl l2.1⟩
 | some g1 =>
  have l1 := World.ownsRow.lt h1 g1 e1
  have a1 := own_num (hi := g1 + 1) (own_from h1 (fun g hg => by rw [e1] at hg; cases hg; exact Nat.le_refl _)) (fun g hg => by rw [e1] at hg; cases hg; exact Nat.lt_succ_self _)
  cases e2 : v2.ownBlock with
  | none => exact ⟨v1, v2, g1, g1 + 1, lo, lo, rfl, a1, own_num h2' (fun g hg => by rw [e2] at hg; cases hg), l1.1, by omega, Nat.le_refl _, hlo, .inr l1.1⟩
  | some g2 =>
   have l2 := World.ownsRow.lt h2' g2 e2
   have hne : g1 ≠ g2 := fun e => by
    obtain ⟨c1, t1⟩ : ∃ c, w.heap[g1]? = some (.cells c 53 (0, 0)) := by
     rcases h1.2 with ⟨q, _⟩ | ⟨g', cap, cur, q, _, hh', _⟩
     ·rw [q] at e1; cases e1
     ·rw [q] at e1; cases e1; exact ⟨cur, hh'⟩
    obtain ⟨c2, t2⟩ : ∃ c, w.heap[g2]? = some (.cells c 89 (0, 0)) := by
     rcases h2'.2 with ⟨q, _⟩ | ⟨g', cap, cur, q, _, hh', _⟩
     ·rw [q] at e2; cases e2
     ·rw [q] at e2; cases e2; exact ⟨cur, hh'⟩
    rw [e, t2] at t1
    have : (89 : TypeId) = 53 := by injection t1 with t1; injection t1
    exact absurd this (by decide)
   refine ⟨v1, v2, g1, g1 + 1, g2, g2 + 1, rfl, a1, own_num (own_from h2' (fun g hg => by rw [e2] at hg; cases hg; exact Nat.le_refl _)) (fun g hg => by rw [e2] at hg; cases hg; exact Nat.lt_succ_self _), l1.1, by omega, l2.1, by omega, by omega⟩
set_option maxRecDepth 1000000 in
set_option maxHeartbeats 2000000 in
theorem eqOrd_calls (u v : Value) (n1 : Nat) (z1 : List Int) (n2 : Nat) (z2 : List Int) (w : World) (la ha lb hb : Nat) (hh1 : ha ≤ w.heap.size) (hh2 : hb ≤ w.heap.size) (hu : OrdN la ha w u n1 z1 n2 z2) (hv : OrdN lb hb w v n1 z1 n2 z2) (hn1 : n1 ≤ 5000) (hn2 : n2 ≤ 5000) :
  Calls Tryz.prog 9 #[u, v] w fun e w' => e = .returned (.bool true) ∧ Below w.heap.size w w' := by
 obtain ⟨u1, u2, a1, b1, a2, b2, rfl, U1, U2, c1, c2, c3, c4, _⟩ := hu
 obtain ⟨v1, v2, a3, b3, a4, b4, rfl, V1, V2, c5, c6, c7, c8, _⟩ := hv
 have e1 : Hid (∀ W, Below w.heap.size w W → Calls Tryz.prog 31 #[u1, v1] W fun e w' => e = .returned (.bool true) ∧ Below W.heap.size W w') := fun W hW => by
  have := hW.size
  exact eqDoneS_calls u1 v1 n1 z1 W a1 b1 a3 b3 (by omega) (by omega) (U1.kept ((Same.below hW).mono (Nat.zero_le _) (by omega))) (V1.kept ((Same.below hW).mono (Nat.zero_le _) (by omega))) (by omega)
 have e2 : Hid (∀ W, Below w.heap.size w W → Calls Tryz.prog 32 #[u2, v2] W fun e w' => e = .returned (.bool true) ∧ Below W.heap.size W w') := fun W hW => by
  have := hW.size
  exact eqRaceS_calls u2 v2 n2 z2 W a2 b2 a4 b4 (by omega) (by omega) (U2.kept ((Same.below hW).mono (Nat.zero_le _) (by omega))) (V2.kept ((Same.below hW).mono (Nat.zero_le _) (by omega))) (by omega)
 obtain ⟨s1, t1, rfl⟩ := U1.form
 obtain ⟨s2, t2, rfl⟩ := U2.form
 obtain ⟨s3, t3, rfl⟩ := V1.form
 obtain ⟨s4, t4, rfl⟩ := V2.form
 clear U1 U2 V1 V2
 obtain ⟨W0, hW0⟩ : ∃ W0 : World, W0 = (w.alloc (.cells #[.slice s1 n1 t1, .slice s2 n2 t2] 30)).alloc (.cells #[.slice s3 n1 t3, .slice s4 n2 t4] 30) := ⟨_, rfl⟩
 have hb0 : Hid (Below w.heap.size w W0) := by show Below _ _ _; rw [hW0]; exact below_on (below_1 _ _) (below_1 _ _)
 have r1 : W0.rangeAt w.heap.size 0 [.slice s1 n1 t1, .slice s2 n2 t2] := by rw [hW0]; exact rangeAt_heap (by rw [Below.heap_alloc _ _ _ (by simp)]; exact heap_alloc_new _ _)
 have r2 : W0.rangeAt (w.heap.size + 1) 0 [.slice s3 n1 t3, .slice s4 n2 t4] := by
  rw [hW0]
  refine rangeAt_heap (t := 30) (fr := (0, 0)) ?_
  have := heap_alloc_new (w.alloc (.cells #[.slice s1 n1 t1, .slice s2 n2 t2] 30)) (.cells #[.slice s3 n1 t3, .slice s4 n2 t4] 30)
  simpa using this
 have hsz : W0.heap.size = w.heap.size + 2 := by rw [hW0]; simp
 have hcl : Hid (∀ W, Below W0.heap.size W0 W → W.cell? ⟨w.heap.size, 0, none⟩ = some (.slice s1 n1 t1) ∧ W.cell? ⟨w.heap.size, 1, none⟩ = some (.slice s2 n2 t2) ∧ W.cell? ⟨w.heap.size + 1, 0, none⟩ = some (.slice s3 n1 t3) ∧ W.cell? ⟨w.heap.size + 1, 1, none⟩ = some (.slice s4 n2 t4)) := fun W hW => ⟨(hW.cell (p := ⟨w.heap.size, 0, none⟩) (show w.heap.size < _ by omega)).trans (r1 0 _ rfl), (hW.cell (p := ⟨w.heap.size, 1, none⟩) (show w.heap.size < _ by omega)).trans (r1 1 _ rfl), (hW.cell (p := ⟨w.heap.size + 1, 0, none⟩) (show w.heap.size + 1 < _ by omega)).trans (r2 0 _ rfl), (hW.cell (p := ⟨w.heap.size + 1, 1, none⟩) (show w.heap.size + 1 < _ by omega)).trans (r2 1 _ rfl)⟩
 clear r1 r2 hsz c1 c2 c3 c4 c5 c6 c7 c8
 go_enter Tryz.func9, Tryz.ntmps9
 go_upto_region 1 with fail
 rw [← hW0]
 clear hW0
 obtain ⟨k1, k2, k3, k4⟩ := hcl.out W0 (Below.refl _ _)
 go_wp2_with (first
  | (go_at_call 31; refine (show Calls _ _ _ _ _ from e1.out _ hb0.out).mono ?_; rintro e w2 ⟨rfl, hb2⟩; clear k1 k2 k3 k4; obtain ⟨k1, k2, k3, k4⟩ := hcl.out w2 hb2; have hb3 : Hid (Below w.heap.size w w2) := below_on hb0.out hb2; clear hb2)
  | (go_at_call 32; refine (show Calls _ _ _ _ _ from e2.out _ hb3.out).mono ?_; rintro e w4 ⟨rfl, hb4⟩))
 go_ret
 exact ⟨rfl, below_on hb3.out hb4⟩
set_option maxRecDepth 1000000 in
set_option maxHeartbeats 2000000 in
theorem markOrd_calls (v : Value) (n1 : Nat) (z1 : List Int) (n2 : Nat) (z2 : List Int) (w : World) (lo hi : Nat) (hlo : lo ≤ w.heap.size) (hh : hi ≤ w.heap.size) (hv : OrdN lo hi w v n1 z1 n2 z2) (hn1 : n1 ≤ 5000) (hn2 : n2 ≤ 5000) :
  Calls Tryz.prog 14 #[v, .int .i64 1] w fun e w' => e = .returned (.int .i64 (1 + 2 * n1 + 4 * n2)) ∧ Touch lo hi w w' ∧ OrdN lo hi w' v n1 (iota 1 (n1 * 2)) n2 (iota (1 + 2 * n1) (n2 * 4)) := by
 obtain ⟨v1, v2, a1, b1, a2, b2, rfl, V1, V2, c1, c2, c3, c4, c5⟩ := hv
 have m1 : Hid (∀ W, Below w.heap.size w W → Calls Tryz.prog 35 #[v1, .int .i64 1] W fun e w' => e = .returned (.int .i64 (1 + 2 * n1)) ∧ Touch a1 b1 W w' ∧ NumAt 2 a1 b1 w' v1 n1 (iota 1 (n1 * 2))) := fun W hW => by
  have := hW.size
  exact markDoneS_calls v1 n1 z1 1 W a1 b1 (by omega) (V1.kept ((Same.below hW).mono (Nat.zero_le _) (by omega))) (by omega) (by omega) hn1
 have m2 : Hid (∀ W W', Below w.heap.size w W → Touch a1 b1 W W' → Calls Tryz.prog 36 #[v2, .int .i64 (1 + 2 * n1)] W' fun e w' => e = .returned (.int .i64 (1 + 2 * n1 + 4 * n2)) ∧ Touch a2 b2 W' w' ∧ NumAt 4 a2 b2 w' v2 n2 (iota (1 + 2 * n1) (n2 * 4))) := fun W W' hW hT => by
  have := hW.size
  have := hT.1
  refine markRaceS_calls v2 n2 z2 (1 + 2 * n1) W' a2 b2 (by omega) ((V2.kept ((Same.below hW).mono (Nat.zero_le _) (by omega))).kept (hT.same (by omega) (by omega))) (by omega) (by omega) hn2
 obtain ⟨s1, t1, rfl⟩ := V1.form
 obtain ⟨s2, t2, rfl⟩ := V2.form
 have hfin : Hid (∀ W W' w2, Below w.heap.size w W → Touch a1 b1 W W' → Touch a2 b2 W' w2 → NumAt 2 a1 b1 W' (.slice s1 n1 t1) n1 (iota 1 (n1 * 2)) → NumAt 4 a2 b2 w2 (.slice s2 n2 t2) n2 (iota (1 + 2 * n1) (n2 * 4)) → Touch lo hi w w2 ∧ OrdN lo hi w2 (.agg #[.slice s1 n1 t1, .slice s2 n2 t2]) n1 (iota 1 (n1 * 2)) n2 (iota (1 + 2 * n1) (n2 * 4))) := fun W W' w2 hW hT hT2 g1 g2 => by
  have := hW.size
  have := hT.1
  exact ⟨(Touch.below hW hlo).trans ((hT.mono c1 c2).trans (hT2.mono c3 c4)), _, _, a1, b1, a2, b2, rfl, g1.kept (hT2.same (by omega) (by omega)), g2, c1, c2, c3, c4, c5⟩
 have hn1' : (n1 : Int) ≤ 5000 := by omega
 have hn2' : (n2 : Int) ≤ 5000 := by omega
 clear V1 V2
 go_enter Tryz.func14, Tryz.ntmps14
 go_upto_region 1 with fail
 have hb0 : Hid (Below w.heap.size w (w.alloc (.cells #[.slice s1 n1 t1, .slice s2 n2 t2] 30))) := below_1 _ _
 have r0 := rangeAt_heap (heap_alloc_new w (.cells #[.slice s1 n1 t1, .slice s2 n2 t2] 30))
 have hs0 : w.heap.size < (w.alloc (.cells #[.slice s1 n1 t1, .slice s2 n2 t2] 30)).heap.size := by simp
 generalize w.alloc (.cells #[.slice s1 n1 t1, .slice s2 n2 t2] 30) = W0 at hb0 r0 hs0 ⊢
 have k0 : W0.cell? ⟨w.heap.size, 0, none⟩ = some (.slice s1 n1 t1) := r0 0 _ rfl
 have hk1 : Hid (∀ W', Touch a1 b1 W0 W' → W'.cell? ⟨w.heap.size, 1, none⟩ = some (.slice s2 n2 t2)) := fun W' hT => ((hT.2.2 ⟨w.heap.size, 1, none⟩ hs0).1 (.inr (by show b1 ≤ w.heap.size; omega))).trans (r0 1 _ rfl)
 clear r0 hs0
 go_wp2_with (first
  | (go_at_call 35; refine (show Calls _ _ _ _ _ from m1.out _ hb0.out).mono ?_; rintro e w2 ⟨rfl, hT2, hN2⟩; have k1 := hk1.out w2 hT2; clear k0)
  | (go_at_call 36; refine (show Calls _ _ _ _ _ from m2.out _ _ hb0.out hT2).mono ?_; rintro e w3 ⟨rfl, hT3, hN3⟩))
 go_ret
 exact ⟨rfl, hfin.out _ _ _ hb0.out hT2 hT3 hN2 hN3⟩
set_option maxRecDepth 1000000 in
set_option maxHeartbeats 2000000 in
theorem heldOrd_calls (v : Value) (n1 n2 : Nat) (w : World) (lo hi : Nat) (hh : hi ≤ w.heap.size) (hv : OrdN lo hi w v n1 (iota 1 (n1 * 2)) n2 (iota (1 + 2 * n1) (n2 * 4))) (hn1 : n1 ≤ 5000) (hn2 : n2 ≤ 5000) :
  Calls Tryz.prog 15 #[v, .int .i64 1] w fun e w' => e = .returned (.int .i64 (1 + 2 * n1 + 4 * n2)) ∧ Below w.heap.size w w' := by
 obtain ⟨v1, v2, a1, b1, a2, b2, rfl, V1, V2, c1, c2, c3, c4, c5⟩ := hv
 have m1 : Hid (∀ W, Below w.heap.size w W → Calls Tryz.prog 37 #[v1, .int .i64 1] W fun e w' => e = .returned (.int .i64 (1 + 2 * n1)) ∧ w' = W) := fun W hW => heldDoneS_calls v1 n1 1 W a1 b1 (V1.kept ((Same.below hW).mono (Nat.zero_le _) (by omega))) (by omega) (by omega) hn1
 have m2 : Hid (∀ W, Below w.heap.size w W → Calls Tryz.prog 38 #[v2, .int .i64 (1 + 2 * n1)] W fun e w' => e = .returned (.int .i64 (1 + 2 * n1 + 4 * n2)) ∧ w' = W) := fun W hW => heldRaceS_calls v2 n2 (1 + 2 * n1) W a2 b2 (V2.kept ((Same.below hW).mono (Nat.zero_le _) (by omega))) (by omega) (by omega) hn2
 obtain ⟨s1, t1, rfl⟩ := V1.form
 obtain ⟨s2, t2, rfl⟩ := V2.form
 have hp1 : ¬ ((1 : Int) + 2 * n1 < 0) := by omega
 have hp2 : ¬ ((1 : Int) + 2 * n1 + 4 * n2 < 0) := by omega
 clear V1 V2
 go_enter Tryz.func15, Tryz.ntmps15
 go_upto_region 1 with fail
 have hb0 : Hid (Below w.heap.size w (w.alloc (.cells #[.slice s1 n1 t1, .slice s2 n2 t2] 30))) := below_1 _ _
 have r0 := rangeAt_heap (heap_alloc_new w (.cells #[.slice s1 n1 t1, .slice s2 n2 t2] 30))
 generalize w.alloc (.cells #[.slice s1 n1 t1, .slice s2 n2 t2] 30) = W0 at hb0 r0 ⊢
 have k0 : W0.cell? ⟨w.heap.size, 0, none⟩ = some (.slice s1 n1 t1) := r0 0 _ rfl
 have k1 : W0.cell? ⟨w.heap.size, 1, none⟩ = some (.slice s2 n2 t2) := r0 1 _ rfl
 clear r0
 go_wp2_with (first
  | (go_at_call 37; refine (show Calls _ _ _ _ _ from m1.out _ hb0.out).mono ?_; rintro e w2 ⟨rfl, h2⟩; subst w2)
  | (go_at_call 38; refine (show Calls _ _ _ _ _ from m2.out _ hb0.out).mono ?_; rintro e w3 ⟨rfl, h3⟩; subst w3))
 go_ret
 exact ⟨rfl, hb0.out⟩
end Go.Proofs.YtknbchheoloaoaaGreat
