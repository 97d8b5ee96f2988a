/- What the law does with its argument: copies of lists of numbers, its size. -/
import Derived.Test.YtkkfkbcdcdifdaaDoorSpB
import Derived.Test.YtkkfkbcdcdifdaaDoorSpE
import Derived.Test.YtkkfkbcdcdifdaaDoorSpA
namespace Go.Proofs.YtkkfkbcdcdifdaaDoor
set_option linter.unusedVariables false
open Go.ChangeShapes Go.WideShapes Go.ChangeAt Go.RowKit

/-- A slice of numbers that came in: somewhere in memory. -/
def TabIn (w : World) (v : Value) (zs : List Int) : Prop :=
  (zs = [] ∧ ∃ a c, v = .slice a 0 c) ∨ ∃ b off c, v = .slice (some ⟨b, off, none⟩) zs.length c ∧ b < w.heap.size ∧ ∀ j (h : j < zs.length), w.cell? ⟨b, off + j, none⟩ = some (.int .i64 zs[j])
theorem TabIn.kept {w w' : World} {v : Value} {zs : List Int} (h : TabIn w v zs) (hb : Below w.heap.size w w') : TabIn w' v zs := by
  rcases h with h | ⟨b, off, c, hv, hg, hc⟩
  · exact .inl h
  · exact .inr ⟨b, off, c, hv, Nat.lt_of_lt_of_le hg hb.size, fun j hj => by rw [hb.cell (p := ⟨b, off + j, none⟩) hg]; exact hc j hj⟩
theorem TabIn.form {w : World} {v : Value} {zs : List Int} (h : TabIn w v zs) : ∃ a c, v = .slice a zs.length c := by
  rcases h with ⟨rfl, a, c, hv⟩ | ⟨b, off, c, hv, _⟩
  · exact ⟨_, _, hv⟩
  · exact ⟨_, _, hv⟩

/-- A row of the call's own in block g, its first k numbers those of zs. -/
def Filled (w : World) (g n k : Nat) (zs : List Int) (wr : World) : Prop :=
  Below w.heap.size w wr ∧ g < wr.heap.size ∧ (∀ j, j < n → ∃ u, wr.cell? ⟨g, j, none⟩ = some (.int .i64 u)) ∧ (∀ j, j < n → wr.frozen? ⟨g, j, none⟩ = false) ∧ (∀ j (h : j < zs.length), j < k → wr.cell? ⟨g, j, none⟩ = some (.int .i64 zs[j]))
theorem Filled.next {w wr : World} {k : Nat} {zs : List Int} (h : Filled w w.heap.size zs.length k zs wr) (hk : k < zs.length) : Filled w w.heap.size zs.length (k + 1) zs (wr.setCell ⟨w.heap.size, k, none⟩ (.int .i64 zs[k])) := by
  obtain ⟨h1, h2, h3, h4, h5⟩ := h
  obtain ⟨u, hu⟩ := h3 k hk
  have same : (wr.setCell ⟨w.heap.size, k, none⟩ (.int .i64 zs[k])).cell? ⟨w.heap.size, k, none⟩ = some (.int .i64 zs[k]) := World.cell?_setCell_same _ _ _ hu
  have other : ∀ j, j ≠ k → (wr.setCell ⟨w.heap.size, k, none⟩ (.int .i64 zs[k])).cell? ⟨w.heap.size, j, none⟩ = wr.cell? ⟨w.heap.size, j, none⟩ := fun j hj => World.cell?_setCell_other _ _ _ _ (fun e => hj (by injection e with _ e2; exact e2.symm))
  refine ⟨h1.setCell (Nat.le_refl _) _, by simpa using h2, fun j hj => ?_, fun j hj => by rw [World.frozen?_setCell]; exact h4 j hj, fun j hj hlt => ?_⟩
  · by_cases e : j = k
    · subst e; exact ⟨_, same⟩
    · rw [other j e]; exact h3 j hj
  · by_cases e : j = k
    · subst e; exact same
    · rw [other j e]; exact h5 j hj (by omega)

set_option maxRecDepth 1000000 in
set_option maxHeartbeats 1000000 in
theorem toInts_calls (v : Value) (zs : List Int) (w : World) (ht : TabIn w v zs) (hz : zs.length ≤ 1048576) :
    Calls Tryd.prog 27 #[v] w fun e w' => e = .returned (.slice (some ⟨w.heap.size, 0, none⟩) zs.length zs.length) ∧ Tab w' (.slice (some ⟨w.heap.size, 0, none⟩) zs.length zs.length) zs ∧ Below w.heap.size w w' := by
  obtain ⟨i0, hi0, hz0, hz1, hz2⟩ := elem2
  obtain ⟨a, c, rfl⟩ := ht.form
  go_enter Tryd.func27, Tryd.ntmps27
  go_wp2_with (refine wpList_make_full _ rfl (.tmp 6) (.tmp 6) 22 rfl w.heap.size 2 i0 (.int .i64 0) 1 Tryd.underlying22 hi0 hz0 hz1 .i64 .i64 zs.length zs.length zs.length rfl rfl rfl rfl (by rw [hz2]; omega) (by unfold maxLen; omega) (Nat.le_refl _) ?_; intro w1 hown1 hgrow1)
  have hb1 : Below w.heap.size w w1 := (Below.refl _ _).grown hgrow1 (Nat.le_refl _) (fun j hj => by cases hj)
  have hadd : ∀ j, (⟨w.heap.size, 0, none⟩ : Addr).add j = ⟨w.heap.size, j, none⟩ := fun j => by unfold Addr.add; split <;> simp_all
  have hF : Filled w w.heap.size zs.length 0 zs w1 := by
    refine ⟨hb1, (hown1.lt _ rfl).2, fun j hj => ⟨0, ?_⟩, fun j _ => hown1.frozenAt j, fun j _ h => absurd h (by omega)⟩
    have := hown1.cells (g := w.heap.size) rfl j (.int .i64 0) (by simp [Value.cells, toList_madeCells_one, hj])
    rwa [hadd] at this
  have hFH : Hid (Filled w w.heap.size zs.length 0 zs w1) := hF
  have htH : Hid (∀ wr, Below w.heap.size w wr → TabIn wr (.slice a zs.length c) zs) := fun wr hw => ht.kept hw
  clear hF hb1 hadd hown1 hgrow1 ht
  go_loopw [4] (fun i wr => ∃ k : Nat, k ≤ zs.length ∧ i = .int .i64 k ∧ Hid (Filled w w.heap.size zs.length k zs wr)) (fun i _ => zs.length - (intOf i).toNat)
  case atStart => exact ⟨0, Nat.zero_le _, rfl, hFH⟩
  case round =>
    obtain ⟨k, hk, rfl, hF⟩ := hrel
    by_cases hlt : k < zs.length
    · have htr := htH.out wr hF.out.1
      obtain ⟨b, off, hv, hcell⟩ : ∃ (b off : Nat), a = some ⟨b, off, none⟩ ∧ wr.cell? ⟨b, off + k, none⟩ = some (.int .i64 (zs[k]'hlt)) := by
        rcases htr with ⟨h0, _⟩ | ⟨b, off, c', hv, hbl, hc⟩
        · rw [h0] at hlt; simp at hlt
        · injection hv with h1
          exact ⟨b, off, h1, hc k hlt⟩
      subst hv
      obtain ⟨u, hu⟩ := hF.out.2.2.1 k hlt
      have hfz := hF.out.2.2.2.1 k hlt
      have hlt' : (k : Int) < (zs.length : Int) := by omega
      have hnx : Hid (Filled w w.heap.size zs.length (k + 1) zs (wr.setCell ⟨w.heap.size, k, none⟩ (.int .i64 zs[k]))) := hF.out.next hlt
      obtain ⟨z, hz1⟩ : ∃ z, z = zs[k] := ⟨_, rfl⟩
      rw [← hz1] at hcell hnx
      clear hz1
      go_wp2
      go_roundw
      case rel => exact ⟨k + 1, by omega, by go_num, hnx⟩
      case measure => simp [intOf]; omega
    · have hend := hF.out
      have hkz : k = zs.length := by omega
      go_wp2
      go_ret
      exact ⟨rfl, .inr ⟨_, _, rfl, hend.2.1, fun j hj => hend.2.2.2.2 j hj (by omega)⟩, hend.1⟩

def SzPost (l : Int) (n : Nat) (e : Ending) : Prop := ∃ r, e = .returned (.int .i64 r) ∧ (l < n → r < 0) ∧ (n ≤ l → r = l - n)
def SzAll (n : Nat) (e : Ending) : Prop := ∃ r, e = .returned (.int .i64 r) ∧ (r < 0 ∨ n ≤ 1048576)
theorem szInts_calls (a : Option Addr) (n c : Nat) (l : Int) (w : World) (hn : n ≤ 9223372036854775807) (hl0 : 0 ≤ l) (hl1 : l ≤ 1048576) :
    Calls Tryd.prog 15 #[.slice a n c, .int .i64 l] w fun e w' => SzPost l n e ∧ w' = w := by
  by_cases h : l < n
  · go_enter Tryd.func15, Tryd.ntmps15
    go_wp2
    go_ret
    exact ⟨⟨_, rfl, fun _ => by simp, fun h' => by omega⟩, rfl⟩
  · go_enter Tryd.func15, Tryd.ntmps15
    go_wp2
    go_ret
    exact ⟨⟨_, rfl, fun h' => by omega, fun _ => by simp⟩, rfl⟩

set_option maxRecDepth 1000000 in
set_option maxHeartbeats 1000000 in
theorem szIns_calls (o k a b : Int) (T C N Y : ByteArray) (ta : Option Addr) (n c : Nat) (w : World) (hT : T.size ≤ 9223372036854775807) (hC : C.size ≤ 9223372036854775807) (hN : N.size ≤ 9223372036854775807) (hY : Y.size ≤ 9223372036854775807) (hn : n ≤ 9223372036854775807) :
    Calls Tryd.prog 5 #[insV o k a b T C N Y (.slice ta n c), .int .i64 1048576] w fun e w' => SzAll (T.size + C.size + N.size + Y.size + n) e ∧ Below w.heap.size w w' := by
  have szH : Hid (∀ (l : Int) (w : World), 0 ≤ l → l ≤ 1048576 → Calls Tryd.prog 15 #[.slice ta n c, .int .i64 l] w fun e w' => SzPost l n e ∧ w' = w) := fun l w h0 h1 => szInts_calls ta n c l w hn h0 h1
  go_enter Tryd.func5, Tryd.ntmps5
  go_wp2_with (go_at_call 15; refine (szH.out _ _ (by omega) (by omega)).mono ?_; rintro e w' ⟨⟨r, rfl, hr1, hr2⟩, he⟩; subst he)
  all_goals (
    go_ret
    refine ⟨⟨_, rfl, ?_⟩, below1 _ _⟩
    go_light
    clear szH
    first | (left; simp; done) | (left; omega) | (right; omega) | (rcases Int.lt_or_le 0 0 with h | h <;> simp_all <;> omega))
end Go.Proofs.YtkkfkbcdcdifdaaDoor
