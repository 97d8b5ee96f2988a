/- Numbers compared, marked, looked at. -/
import Derived.Test.YtchcdlelaklnnaaLs
namespace Go.Proofs.Ytchcdlelaklnnaa
set_option linter.unusedVariables false
open Go.ChangeShapes Go.WideShapes Go.ChangeAt Go.RowKit

/-- What may have been written within the blocks from lo up to hi: all else is as it was, and what is there is there still. -/
def Touch (lo hi : Nat) (w w' : World) : Prop := w.heap.size ≤ w'.heap.size ∧ Below lo w w' ∧ ∀ p : Addr, p.block < w.heap.size → (p.block < lo ∨ hi ≤ p.block → w'.cell? p = w.cell? p) ∧ (w'.cell? p).isSome = (w.cell? p).isSome ∧ w'.frozen? p = w.frozen? p
theorem Touch.refl (lo hi : Nat) (w : World) : Touch lo hi w w := ⟨Nat.le_refl _, Below.refl _ _, fun p hp => ⟨fun _ => rfl, rfl, rfl⟩⟩
theorem Touch.trans {lo hi : Nat} {a b c : World} (h : Touch lo hi a b) (k : Touch lo hi b c) : Touch lo hi a c := ⟨Nat.le_trans h.1 k.1, h.2.1.trans k.2.1, fun p hp => by
  obtain ⟨h1, h2, h3⟩ := h.2.2 p hp
  obtain ⟨k1, k2, k3⟩ := k.2.2 p (Nat.lt_of_lt_of_le hp h.1)
  exact ⟨fun q => (k1 q).trans (h1 q), k2.trans h2, k3.trans h3⟩⟩
theorem Touch.mono {lo hi lo' hi' : Nat} {w w' : World} (h : Touch lo hi w w') (h1 : lo' ≤ lo) (h2 : hi ≤ hi') : Touch lo' hi' w w' := ⟨h.1, h.2.1.mono h1, fun p hp => by
  obtain ⟨a, b, c⟩ := h.2.2 p hp
  exact ⟨fun q => a (by omega), b, c⟩⟩
theorem Touch.below {lo hi : Nat} {w w' : World} (h : Below w.heap.size w w') (hl : lo ≤ w.heap.size) : Touch lo hi w w' := ⟨h.size, h.mono hl, fun p hp => ⟨fun _ => h.cell hp, by rw [h.cell hp], h.frozen hp⟩⟩
theorem Touch.setCell {lo hi : Nat} (w : World) (b o : Nat) (v : Value) (h1 : lo ≤ b) (h2 : b < hi) {q : Value} (hq : w.cell? ⟨b, o, none⟩ = some q) : Touch lo hi w (w.setCell ⟨b, o, none⟩ v) := ⟨by simp [World.setCell], (Below.refl _ _).setCell (p := ⟨b, o, none⟩) h1 v, fun p hp => by
  by_cases e : (⟨b, o, none⟩ : Addr) = p
  · subst e
    exact ⟨fun h => by rcases h with h | h <;> simp at h <;> omega, by rw [World.cell?_setCell_same _ _ _ hq, hq]; rfl, by simp⟩
  · have e2 := World.cell?_setCell_other w ⟨b, o, none⟩ p v e
    exact ⟨fun _ => e2, by rw [e2], by simp⟩⟩
theorem Touch.same {lo hi a b : Nat} {w w' : World} (h : Touch lo hi w w') (hb : b ≤ w.heap.size) (hd : b ≤ lo ∨ hi ≤ a) : Same a b w w' := fun p h1 h2 => by
  obtain ⟨x, y, z⟩ := h.2.2 p (by omega)
  exact ⟨x (by omega), z⟩
theorem Touch.there {lo hi : Nat} {w w' : World} (h : Touch lo hi w w') {b o n : Nat} (hb : b < w.heap.size) (ht : w.there b o n) : w'.there b o n := fun j hj => by
  obtain ⟨x, y, z⟩ := h.2.2 ⟨b, o + j, none⟩ hb
  rw [y, z]; exact ht j hj

/-! ### Rows of numbers that a call made -/
def IntsAt (lo hi : Nat) (w : World) (v : Value) (zs : List Int) : Prop :=
  (zs = [] ∧ ∃ a c, v = .slice a 0 c) ∨ ∃ b c, v = .slice (some ⟨b, 0, none⟩) zs.length c ∧ lo ≤ b ∧ b < hi ∧ w.there b 0 zs.length ∧ ∀ j (h : j < zs.length), w.cell? ⟨b, j, none⟩ = some (.int .i64 zs[j])
theorem IntsAt.kept {lo hi : Nat} {w w' : World} {v : Value} {zs : List Int} (h : IntsAt lo hi w v zs) (hs : Same lo hi w w') : IntsAt lo hi w' v zs := by
  rcases h with h | ⟨b, c, hv, h1, h2, h3, h4⟩
  · exact .inl h
  · exact .inr ⟨b, c, hv, h1, h2, there_same hs h1 h2 h3, fun j hj => by rw [(hs ⟨b, j, none⟩ h1 h2).1]; exact h4 j hj⟩
theorem IntsAt.mono {lo hi lo' hi' : Nat} {w : World} {v : Value} {zs : List Int} (h : IntsAt lo hi w v zs) (h1 : lo' ≤ lo) (h2 : hi ≤ hi') : IntsAt lo' hi' w v zs := by
  rcases h with h | ⟨b, c, hv, g1, g2, h3, h4⟩
  · exact .inl h
  · exact .inr ⟨b, c, hv, by omega, by omega, h3, h4⟩
theorem IntsAt.form {lo hi : Nat} {w : World} {v : Value} {zs : List Int} (h : IntsAt lo hi w v zs) : ∃ a c, v = .slice a zs.length c := by
  rcases h with ⟨rfl, a, c, rfl⟩ | ⟨b, c, hv, _⟩
  · exact ⟨a, c, rfl⟩
  · exact ⟨_, c, hv⟩
theorem IntsAt.at {lo hi : Nat} {w : World} {a : Option Addr} {n c : Nat} {zs : List Int} (h : IntsAt lo hi w (.slice a n c) zs) (j : Nat) (hj : j < zs.length) : ∃ b, a = some ⟨b, 0, none⟩ ∧ lo ≤ b ∧ b < hi ∧ w.cell? ⟨b, j, none⟩ = some (.int .i64 zs[j]) ∧ w.frozen? ⟨b, j, none⟩ = false := by
  rcases h with ⟨rfl, _⟩ | ⟨b, c', hv, h1, h2, h3, h4⟩
  · simp at hj
  · injection hv with e1
    exact ⟨b, e1, h1, h2, h4 j hj, by have := (h3 j hj).2; simpa using this⟩
theorem ListAt.ints {lo hi : Nat} {w : World} {v : Value} {zs : List Int} (h : ListAt IntR 1 true lo hi w v zs) : IntsAt lo hi w v zs := by
  rcases h with ⟨h, _⟩ | ⟨b, off, c, hv, hlo, hhi, ho, hc⟩
  · cases h
  · obtain ⟨h0, ht, _⟩ := ho rfl
    subst h0
    refine .inr ⟨b, c, hv, hlo, hhi, by simpa using ht, fun j hj => ?_⟩
    obtain ⟨row, hl, hr, hx, _⟩ := hc j hj
    have : row = [.int .i64 zs[j]] := hx
    simpa using hr 0 (.int .i64 zs[j]) (by rw [this]; rfl)
theorem IntsAt.set {lo hi : Nat} {w : World} {b n c : Nat} {zs : List Int} (h : IntsAt lo hi w (.slice (some ⟨b, 0, none⟩) n c) zs) (hn : 0 < zs.length) (i : Nat) (hi' : i < zs.length) (z : Int) : IntsAt lo hi (w.setCell ⟨b, i, none⟩ (.int .i64 z)) (.slice (some ⟨b, 0, none⟩) n c) (zs.set i z) := by
  rcases h with ⟨rfl, _⟩ | ⟨b', c', hv, h1, h2, h3, h4⟩
  · simp at hn
  · injection hv with e1 e2 e3
    injection e1 with e1
    injection e1 with e1
    subst e1
    refine .inr ⟨b, c, by rw [e2]; simp, h1, h2, ?_, fun j hj => ?_⟩
    · simp only [List.length_set]
      rw [← setCells_one]; exact World.there_setCells h3 _ _ _
    · have hj' : j < zs.length := by simpa using hj
      by_cases e : j = i
      · subst e
        rw [World.cell?_setCell_same _ _ _ (h4 j hj')]; simp
      · rw [World.cell?_setCell_other _ _ _ _ (fun e2 => e (by injection e2 with _ e3; exact e3.symm)), h4 j hj']
        rw [List.getElem_set_ne (fun e2 => e e2.symm)]

/-- k, k + 1 and so on. -/
def iota : Int → Nat → List Int
  | _, 0 => []
  | k, n + 1 => k :: iota (k + 1) n
theorem iota_length (k : Int) (n : Nat) : (iota k n).length = n := by
  induction n generalizing k with
  | zero => rfl
  | succ n ih => simp [iota, ih]
theorem iota_get (k : Int) (n : Nat) (j : Nat) (h : j < (iota k n).length) : (iota k n)[j] = k + j := by
  induction n generalizing k j with
  | zero => simp [iota] at h
  | succ n ih =>
    cases j with
    | zero => simp [iota]
    | succ j =>
      have := ih (k + 1) j (by simpa [iota] using h)
      simp only [iota, List.getElem_cons_succ, this]; omega
theorem IntsAt.iota_of {lo hi : Nat} {w : World} {v : Value} {zs ys : List Int} {k : Int} (h : IntsAt lo hi w v ys) (hl : ys.length = zs.length) (hj : ∀ j (h : j < ys.length), ys[j] = k + j) : IntsAt lo hi w v (iota k zs.length) := by
  have e : ys = iota k zs.length := List.ext_getElem (by rw [iota_length, hl]) (fun j h1 h2 => by rw [hj j h1, iota_get])
  rw [← e]; exact h

end Go.Proofs.Ytchcdlelaklnnaa

/- Heaps of the collector: copies, comparisons. -/
namespace Go.Proofs.Ytchcdlelaklnnaa
set_option linter.unusedVariables false
open Go.ChangeShapes Go.WideShapes Go.ChangeAt Go.RowKit

structure GobL where
  id : Int
  adr : Int
  age : Int
  kind : Int
  flds : List Int
structure GhpL where
  objs : List GobL
  roots : List Int
  queue : List Int
  from_ : Int
  tops : List Int
  dirty : List Int
def GobR : Rd GobL := fun own lo hi w row x => ∃ v, row = [.int .i64 x.id, .int .i64 x.adr, .int .i64 x.age, .int .i64 x.kind, v] ∧ ListAt IntR 1 own lo hi w v x.flds
theorem GobR.stable : Stable GobR := fun _ _ _ _ _ _ _ _ _ ⟨v, hv, hx⟩ h1 h2 hs => ⟨v, hv, hx.kept IntR.stable h1 h2 hs⟩
def GhpR : Rd GhpL := fun own lo hi w row x => ∃ v0 v1 v2 v4 v5, row = [v0, v1, v2, .int .i64 x.from_, v4, v5] ∧ ListAt GobR 5 own lo hi w v0 x.objs ∧ ListAt IntR 1 own lo hi w v1 x.roots ∧ ListAt IntR 1 own lo hi w v2 x.queue ∧ ListAt IntR 1 own lo hi w v4 x.tops ∧ ListAt IntR 1 own lo hi w v5 x.dirty
theorem GhpR.stable : Stable GhpR := fun _ _ _ _ _ _ _ _ _ ⟨v0, v1, v2, v4, v5, hv, h0, h1', h2', h4, h5⟩ h1 h2 hs => ⟨v0, v1, v2, v4, v5, hv, h0.kept GobR.stable h1 h2 hs, h1'.kept IntR.stable h1 h2 hs, h2'.kept IntR.stable h1 h2 hs, h4.kept IntR.stable h1 h2 hs, h5.kept IntR.stable h1 h2 hs⟩
def GobL.small (x : GobL) : Prop := x.flds.length ≤ 1048576
def GhpL.small (x : GhpL) : Prop := x.objs.length ≤ 1048576 ∧ x.roots.length ≤ 1048576 ∧ x.queue.length ≤ 1048576 ∧ x.tops.length ≤ 1048576 ∧ x.dirty.length ≤ 1048576 ∧ ∀ y ∈ x.objs, y.small

theorem elemT52 : ∃ i z, Try.prog.info? 51 = some i ∧ i.zero = some z ∧ i.size = 5 ∧ i.bytes = 56 := by
  obtain ⟨i0, hi0⟩ : ∃ i, Try.prog.info? 51 = some i := Option.isSome_iff_exists.1 (by kernel_rfl)
  obtain ⟨z, hz⟩ : ∃ z, (Try.prog.info? 51).bind (·.zero) = some z := Option.isSome_iff_exists.1 (by kernel_rfl)
  refine ⟨i0, z, hi0, ?_, ?_, ?_⟩
  · rw [hi0] at hz; exact hz
  · have : (Try.prog.info? 51).map (·.size) = some 5 := by kernel_rfl
    rw [hi0] at this; exact Option.some.inj this
  · have : (Try.prog.info? 51).map (·.bytes) = some 56 := by kernel_rfl
    rw [hi0] at this; exact Option.some.inj this

theorem elemT2 : ∃ i z, Try.prog.info? 2 = some i ∧ i.zero = some z ∧ i.size = 1 ∧ i.bytes = 8 := by
  obtain ⟨i0, hi0⟩ : ∃ i, Try.prog.info? 2 = some i := Option.isSome_iff_exists.1 (by kernel_rfl)
  obtain ⟨z, hz⟩ : ∃ z, (Try.prog.info? 2).bind (·.zero) = some z := Option.isSome_iff_exists.1 (by kernel_rfl)
  refine ⟨i0, z, hi0, ?_, ?_, ?_⟩
  · rw [hi0] at hz; exact hz
  · have : (Try.prog.info? 2).map (·.size) = some 1 := by kernel_rfl
    rw [hi0] at this; exact Option.some.inj this
  · have : (Try.prog.info? 2).map (·.bytes) = some 8 := by kernel_rfl
    rw [hi0] at this; exact Option.some.inj this

end Go.Proofs.Ytchcdlelaklnnaa

/- Numbers compared, marked, looked at; heaps compared. -/
namespace Go.Proofs.Ytchcdlelaklnnaa
set_option linter.unusedVariables false
open Go.ChangeShapes Go.WideShapes Go.ChangeAt Go.RowKit

/-- A row of a call's own: k cells an element, what they are not said. -/
def RowAt (k : Nat) (lo hi : Nat) (w : World) (v : Value) (n : Nat) : Prop := ∃ b c, v = .slice (some ⟨b, 0, none⟩) n c ∧ lo ≤ b ∧ b < hi ∧ w.there b 0 (n * k)
theorem ListAt.rowAt {α : Type} {R : Rd α} {k lo hi : Nat} {w : World} {v : Value} {xs : List α} (h : ListAt R k true lo hi w v xs) : RowAt k lo hi w v xs.length := by
  rcases h with ⟨h, _⟩ | ⟨b, off, c, hv, hlo, hhi, ho, hc⟩
  · cases h
  · obtain ⟨h0, ht, _⟩ := ho rfl
    subst h0
    exact ⟨b, c, hv, hlo, hhi, ht⟩
theorem RowAt.touch {k lo hi a b : Nat} {w w' : World} {v : Value} {n : Nat} (h : RowAt k lo hi w v n) (hh : hi ≤ w.heap.size) (ht : Touch a b w w') : RowAt k lo hi w' v n := by
  obtain ⟨g, c, hv, h1, h2, h3⟩ := h
  exact ⟨g, c, hv, h1, h2, ht.there (by omega) h3⟩
theorem there_cell {w : World} {b n : Nat} (h : w.there b 0 n) (j : Nat) (hj : j < n) : (∃ q, w.cell? ⟨b, j, none⟩ = some q) ∧ w.frozen? ⟨b, j, none⟩ = false := by
  have := h j hj
  simp only [Nat.zero_add] at this
  exact ⟨Option.isSome_iff_exists.1 this.1, this.2⟩


theorem drewN_below (W : World) (n : Nat) : Below W.heap.size W (W.drewN n) := below_drewN (Below.refl _ _) n
end Go.Proofs.Ytchcdlelaklnnaa
