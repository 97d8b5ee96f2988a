/- What the law does with its argument: copies of lists of numbers, its size. -/
import Derived.Test.YtcencddbdidjjaaGreatDoorSpA
import Derived.Test.YtcencddbdidjjaaGreatDoorSpE
import Derived.Laws.CopyOwn
import Derived.Deep.WholeRow
import Derived.Deep.RegionHeld
namespace Go.Proofs.YtcencddbdidjjaaGreatDoor
set_option linter.unusedVariables false
open Go.ChangeShapes Go.WideShapes Go.ChangeAt Go.RowKit

/-- A slice of numbers that came in: somewhere in memory. -/
def TabIn (w : World) (v : Value) (zs : List Int) : Prop :=
  (zs = [] ∧ ∃ a c, v = .slice a 0 c) ∨ ∃ b off c, v = .slice (some ⟨b, off, none⟩) zs.length c ∧ b < w.heap.size ∧ ∀ j (h : j < zs.length), w.cell? ⟨b, off + j, none⟩ = some (.int .i64 zs[j])
theorem TabIn.kept {w w' : World} {v : Value} {zs : List Int} (h : TabIn w v zs) (hb : Below w.heap.size w w') : TabIn w' v zs := by
  rcases h with h | ⟨b, off, c, hv, hg, hc⟩
  · exact .inl h
  · exact .inr ⟨b, off, c, hv, Nat.lt_of_lt_of_le hg hb.size, fun j hj => by rw [hb.cell (p := ⟨b, off + j, none⟩) hg]; exact hc j hj⟩
theorem TabIn.form {w : World} {v : Value} {zs : List Int} (h : TabIn w v zs) : ∃ a c, v = .slice a zs.length c := by
  rcases h with ⟨rfl, a, c, hv⟩ | ⟨b, off, c, hv, _⟩
  · exact ⟨_, _, hv⟩
  · exact ⟨_, _, hv⟩

/-- A row of the call's own in block g, its first k numbers those of zs. -/
def Filled (w : World) (g n k : Nat) (zs : List Int) (wr : World) : Prop :=
  Below w.heap.size w wr ∧ g < wr.heap.size ∧ (∀ j, j < n → ∃ u, wr.cell? ⟨g, j, none⟩ = some (.int .i64 u)) ∧ (∀ j, j < n → wr.frozen? ⟨g, j, none⟩ = false) ∧ (∀ j (h : j < zs.length), j < k → wr.cell? ⟨g, j, none⟩ = some (.int .i64 zs[j]))
theorem Filled.next {w wr : World} {k : Nat} {zs : List Int} (h : Filled w w.heap.size zs.length k zs wr) (hk : k < zs.length) : Filled w w.heap.size zs.length (k + 1) zs (wr.setCell ⟨w.heap.size, k, none⟩ (.int .i64 zs[k])) := by
  obtain ⟨h1, h2, h3, h4, h5⟩ := h
  obtain ⟨u, hu⟩ := h3 k hk
  have same : (wr.setCell ⟨w.heap.size, k, none⟩ (.int .i64 zs[k])).cell? ⟨w.heap.size, k, none⟩ = some (.int .i64 zs[k]) := World.cell?_setCell_same _ _ _ hu
  have other : ∀ j, j ≠ k → (wr.setCell ⟨w.heap.size, k, none⟩ (.int .i64 zs[k])).cell? ⟨w.heap.size, j, none⟩ = wr.cell? ⟨w.heap.size, j, none⟩ := fun j hj => World.cell?_setCell_other _ _ _ _ (fun e => hj (by injection e with _ e2; exact e2.symm))
  refine ⟨h1.setCell (Nat.le_refl _) _, by simpa using h2, fun j hj => ?_, fun j hj => by rw [World.frozen?_setCell]; exact h4 j hj, fun j hj hlt => ?_⟩
  · by_cases e : j = k
    · subst e; exact ⟨_, same⟩
    · rw [other j e]; exact h3 j hj
  · by_cases e : j = k
    · subst e; exact same
    · rw [other j e]; exact h5 j hj (by omega)

set_option maxRecDepth 1000000 in
set_option maxHeartbeats 1000000 in
theorem toInts_calls (v : Value) (zs : List Int) (w : World) (ht : TabIn w v zs) (hz : zs.length ≤ 1048576) :
    Calls Tryz.prog 13 #[v] w fun e w' => e = .returned (.slice (some ⟨w.heap.size, 0, none⟩) zs.length zs.length) ∧ Tab w' (.slice (some ⟨w.heap.size, 0, none⟩) zs.length zs.length) zs ∧ Below w.heap.size w w' := by
  obtain ⟨i0, hi0, hz0, hz1, hz2⟩ := elem2
  obtain ⟨a, c, rfl⟩ := ht.form
  go_enter Tryz.func13, Tryz.ntmps13
  go_wp2_with (refine wpList_make_full _ rfl (.tmp 6) (.tmp 6) 22 rfl w.heap.size 2 i0 (.int .i64 0) 1 Tryz.underlying22 hi0 hz0 hz1 .i64 .i64 zs.length zs.length zs.length rfl rfl rfl rfl (by rw [hz2]; omega) (by unfold maxLen; omega) (Nat.le_refl _) ?_; intro w1 hown1 hgrow1)
  have hb1 : Below w.heap.size w w1 := (Below.refl _ _).grown hgrow1 (Nat.le_refl _) (fun j hj => by cases hj)
  have hadd : ∀ j, (⟨w.heap.size, 0, none⟩ : Addr).add j = ⟨w.heap.size, j, none⟩ := fun j => by unfold Addr.add; split <;> simp_all
  have hF : Filled w w.heap.size zs.length 0 zs w1 := by
    refine ⟨hb1, (hown1.lt _ rfl).2, fun j hj => ⟨0, ?_⟩, fun j _ => hown1.frozenAt j, fun j _ h => absurd h (by omega)⟩
    have := hown1.cells (g := w.heap.size) rfl j (.int .i64 0) (by simp [Value.cells, toList_madeCells_one, hj])
    rwa [hadd] at this
  have hFH : Hid (Filled w w.heap.size zs.length 0 zs w1) := hF
  have htH : Hid (∀ wr, Below w.heap.size w wr → TabIn wr (.slice a zs.length c) zs) := fun wr hw => ht.kept hw
  clear hF hb1 hadd hown1 hgrow1 ht
  go_loopw [4] (fun i wr => ∃ k : Nat, k ≤ zs.length ∧ i = .int .i64 k ∧ Hid (Filled w w.heap.size zs.length k zs wr)) (fun i _ => zs.length - (intOf i).toNat)
  case atStart => exact ⟨0, Nat.zero_le _, rfl, hFH⟩
  case round =>
    obtain ⟨k, hk, rfl, hF⟩ := hrel
    by_cases hlt : k < zs.length
    · have htr := htH.out wr hF.out.1
      obtain ⟨b, off, hv, hcell⟩ : ∃ (b off : Nat), a = some ⟨b, off, none⟩ ∧ wr.cell? ⟨b, off + k, none⟩ = some (.int .i64 (zs[k]'hlt)) := by
        rcases htr with ⟨h0, _⟩ | ⟨b, off, c', hv, hbl, hc⟩
        · rw [h0] at hlt; simp at hlt
        · injection hv with h1
          exact ⟨b, off, h1, hc k hlt⟩
      subst hv
      obtain ⟨u, hu⟩ := hF.out.2.2.1 k hlt
      have hfz := hF.out.2.2.2.1 k hlt
      have hlt' : (k : Int) < (zs.length : Int) := by omega
      have hnx : Hid (Filled w w.heap.size zs.length (k + 1) zs (wr.setCell ⟨w.heap.size, k, none⟩ (.int .i64 zs[k]))) := hF.out.next hlt
      obtain ⟨z, hz1⟩ : ∃ z, z = zs[k] := ⟨_, rfl⟩
      rw [← hz1] at hcell hnx
      clear hz1
      go_wp2
      go_roundw
      case rel => exact ⟨k + 1, by omega, by go_num, hnx⟩
      case measure => simp [intOf]; omega
    · have hend := hF.out
      have hkz : k = zs.length := by omega
      go_wp2
      go_ret
      exact ⟨rfl, .inr ⟨_, _, rfl, hend.2.1, fun j hj => hend.2.2.2.2 j hj (by omega)⟩, hend.1⟩

def SzPost (l : Int) (n : Nat) (e : Ending) : Prop := ∃ r, e = .returned (.int .i64 r) ∧ (l < n → r < 0) ∧ (n ≤ l → r = l - n)
def SzAll (n : Nat) (e : Ending) : Prop := ∃ r, e = .returned (.int .i64 r) ∧ (r < 0 ∨ n ≤ 1048576)
theorem szInts_calls (a : Option Addr) (n c : Nat) (l : Int) (w : World) (hn : n ≤ 9223372036854775807) (hl0 : 0 ≤ l) (hl1 : l ≤ 1048576) :
    Calls Tryz.prog 9 #[.slice a n c, .int .i64 l] w fun e w' => SzPost l n e ∧ w' = w := by
  by_cases h : l < n
  · go_enter Tryz.func9, Tryz.ntmps9
    go_wp2
    go_ret
    exact ⟨⟨_, rfl, fun _ => by simp, fun h' => by omega⟩, rfl⟩
  · go_enter Tryz.func9, Tryz.ntmps9
    go_wp2
    go_ret
    exact ⟨⟨_, rfl, fun h' => by omega, fun _ => by simp⟩, rfl⟩

set_option maxRecDepth 1000000 in
set_option maxHeartbeats 1000000 in
theorem szIns_calls (o k a b : Int) (T C N Y : ByteArray) (ta : Option Addr) (n c : Nat) (w : World) (hT : T.size ≤ 9223372036854775807) (hC : C.size ≤ 9223372036854775807) (hN : N.size ≤ 9223372036854775807) (hY : Y.size ≤ 9223372036854775807) (hn : n ≤ 9223372036854775807) :
    Calls Tryz.prog 4 #[insV o k a b T C N Y (.slice ta n c), .int .i64 1048576] w fun e w' => SzAll (T.size + C.size + N.size + Y.size + n) e ∧ Below w.heap.size w w' := by
  have szH : Hid (∀ (l : Int) (w : World), 0 ≤ l → l ≤ 1048576 → Calls Tryz.prog 9 #[.slice ta n c, .int .i64 l] w fun e w' => SzPost l n e ∧ w' = w) := fun l w h0 h1 => szInts_calls ta n c l w hn h0 h1
  go_enter Tryz.func4, Tryz.ntmps4
  go_wp2_with (go_at_call 9; refine (szH.out _ _ (by omega) (by omega)).mono ?_; rintro e w' ⟨⟨r, rfl, hr1, hr2⟩, he⟩; subst he)
  all_goals (
    go_ret
    refine ⟨⟨_, rfl, ?_⟩, below1 _ _⟩
    go_light
    clear szH
    first | (left; simp; done) | (left; omega) | (right; omega) | (rcases Int.lt_or_le 0 0 with h | h <;> simp_all <;> omega))
end Go.Proofs.YtcencddbdidjjaaGreatDoor

/- A copy of an instruction; two of them held against each other. -/
namespace Go.Proofs.YtcencddbdidjjaaGreatDoor
set_option linter.unusedVariables false
open Go.ChangeShapes Go.WideShapes Go.ChangeAt Go.RowKit

theorem heap_last3 (w : World) (o1 o2 o3 : Obj) : (((w.alloc o1).alloc o2).alloc o3).heap[w.heap.size + 1 + 1]? = some o3 := by
  have h := heap_alloc_last ((w.alloc o1).alloc o2) o3
  have e : ((w.alloc o1).alloc o2).heap.size = w.heap.size + 1 + 1 := by simp
  rwa [e] at h

theorem set9 (W : World) (g : Nat) (t : TypeId) {z0 z1 z2 z3 z4 z5 z6 z7 z8 : Value} (hg : W.heap[g]? = some (.cells #[z0, z1, z2, z3, z4, z5, z6, z7, z8] t (0, 0))) {v0 v1 v2 v3 v4 v5 v6 v7 v8 : Value} :
    (((((((((W.setCell ⟨g, 0, none⟩ v0).setCell ⟨g, 1, none⟩ v1).setCell ⟨g, 2, none⟩ v2).setCell ⟨g, 3, none⟩ v3).setCell ⟨g, 4, none⟩ v4).setCell ⟨g, 5, none⟩ v5).setCell ⟨g, 6, none⟩ v6).setCell ⟨g, 7, none⟩ v7).setCell ⟨g, 8, none⟩ v8) = W.setRow g #[v0, v1, v2, v3, v4, v5, v6, v7, v8] := by
  have e0 : W.setCell ⟨g, 0, none⟩ v0 = W.setRow g #[v0, z1, z2, z3, z4, z5, z6, z7, z8] := setCell_eq_setRow W g 0 _ t (0, 0) v0 hg
  have e1 : (W.setRow g #[v0, z1, z2, z3, z4, z5, z6, z7, z8]).setCell ⟨g, 1, none⟩ v1 = W.setRow g #[v0, v1, z2, z3, z4, z5, z6, z7, z8] := by
    rw [setCell_eq_setRow _ g 1 _ t (0, 0) v1 (setRow_heap W g _ #[v0, z1, z2, z3, z4, z5, z6, z7, z8] t (0, 0) hg), setRow_setRow]; rfl
  have e2 : (W.setRow g #[v0, v1, z2, z3, z4, z5, z6, z7, z8]).setCell ⟨g, 2, none⟩ v2 = W.setRow g #[v0, v1, v2, z3, z4, z5, z6, z7, z8] := by
    rw [setCell_eq_setRow _ g 2 _ t (0, 0) v2 (setRow_heap W g _ #[v0, v1, z2, z3, z4, z5, z6, z7, z8] t (0, 0) hg), setRow_setRow]; rfl
  have e3 : (W.setRow g #[v0, v1, v2, z3, z4, z5, z6, z7, z8]).setCell ⟨g, 3, none⟩ v3 = W.setRow g #[v0, v1, v2, v3, z4, z5, z6, z7, z8] := by
    rw [setCell_eq_setRow _ g 3 _ t (0, 0) v3 (setRow_heap W g _ #[v0, v1, v2, z3, z4, z5, z6, z7, z8] t (0, 0) hg), setRow_setRow]; rfl
  have e4 : (W.setRow g #[v0, v1, v2, v3, z4, z5, z6, z7, z8]).setCell ⟨g, 4, none⟩ v4 = W.setRow g #[v0, v1, v2, v3, v4, z5, z6, z7, z8] := by
    rw [setCell_eq_setRow _ g 4 _ t (0, 0) v4 (setRow_heap W g _ #[v0, v1, v2, v3, z4, z5, z6, z7, z8] t (0, 0) hg), setRow_setRow]; rfl
  have e5 : (W.setRow g #[v0, v1, v2, v3, v4, z5, z6, z7, z8]).setCell ⟨g, 5, none⟩ v5 = W.setRow g #[v0, v1, v2, v3, v4, v5, z6, z7, z8] := by
    rw [setCell_eq_setRow _ g 5 _ t (0, 0) v5 (setRow_heap W g _ #[v0, v1, v2, v3, v4, z5, z6, z7, z8] t (0, 0) hg), setRow_setRow]; rfl
  have e6 : (W.setRow g #[v0, v1, v2, v3, v4, v5, z6, z7, z8]).setCell ⟨g, 6, none⟩ v6 = W.setRow g #[v0, v1, v2, v3, v4, v5, v6, z7, z8] := by
    rw [setCell_eq_setRow _ g 6 _ t (0, 0) v6 (setRow_heap W g _ #[v0, v1, v2, v3, v4, v5, z6, z7, z8] t (0, 0) hg), setRow_setRow]; rfl
  have e7 : (W.setRow g #[v0, v1, v2, v3, v4, v5, v6, z7, z8]).setCell ⟨g, 7, none⟩ v7 = W.setRow g #[v0, v1, v2, v3, v4, v5, v6, v7, z8] := by
    rw [setCell_eq_setRow _ g 7 _ t (0, 0) v7 (setRow_heap W g _ #[v0, v1, v2, v3, v4, v5, v6, z7, z8] t (0, 0) hg), setRow_setRow]; rfl
  have e8 : (W.setRow g #[v0, v1, v2, v3, v4, v5, v6, v7, z8]).setCell ⟨g, 8, none⟩ v8 = W.setRow g #[v0, v1, v2, v3, v4, v5, v6, v7, v8] := by
    rw [setCell_eq_setRow _ g 8 _ t (0, 0) v8 (setRow_heap W g _ #[v0, v1, v2, v3, v4, v5, v6, v7, z8] t (0, 0) hg), setRow_setRow]; rfl
  rw [e0, e1, e2, e3, e4, e5, e6, e7, e8]

set_option maxRecDepth 1000000 in
set_option maxHeartbeats 1000000 in
theorem toIns_calls (o k a b : Int) (T C N Y : ByteArray) (v : Value) (zs : List Int) (w : World) (ht : TabIn w v zs) (hz : zs.length ≤ 1048576) :
    Calls Tryz.prog 6 #[insV o k a b T C N Y v] w fun e w' => ∃ u, e = .returned (insV o k a b T C N Y u) ∧ Tab w' u zs ∧ Below w.heap.size w w' := by
  have tiH : Hid (∀ W, Below w.heap.size w W → Calls Tryz.prog 13 #[v] W fun e w' => e = .returned (.slice (some ⟨W.heap.size, 0, none⟩) zs.length zs.length) ∧ Tab w' (.slice (some ⟨W.heap.size, 0, none⟩) zs.length zs.length) zs ∧ Below W.heap.size W w') := fun W hW => toInts_calls v zs W (ht.kept hW) hz
  obtain ⟨ta, c, rfl⟩ := ht.form
  clear ht
  go_enter Tryz.func6, Tryz.ntmps6
  go_wp2_with fail
  obtain ⟨W, hW⟩ : ∃ W : World, W = ((w.alloc (.cells #[.int .i64 o, .int .i64 k, .int .i64 a, .int .i64 b, .string T, .string C, .string N, .string Y, .slice ta zs.length c] 24)).alloc (.cells #[.int .i64 0, .int .i64 0, .int .i64 0, .int .i64 0, .string ⟨#[]⟩, .string ⟨#[]⟩, .string ⟨#[]⟩, .string ⟨#[]⟩, .slice none 0 0] 27)).alloc (.cells #[.int .i64 o, .int .i64 k, .int .i64 a, .int .i64 b, .string T, .string C, .string N, .string Y, .slice none 0 0] 27) := ⟨_, rfl⟩
  rw [← hW]
  have hbW : Below w.heap.size w W := by rw [hW]; exact below3 _ _ _ _
  have hX : W.heap[w.heap.size + 1]? = some (.cells #[.int .i64 0, .int .i64 0, .int .i64 0, .int .i64 0, .string ⟨#[]⟩, .string ⟨#[]⟩, .string ⟨#[]⟩, .string ⟨#[]⟩, .slice none 0 0] 27) := by rw [hW]; exact heap_mid w _ _ _
  have hO : W.heap[w.heap.size + 1 + 1]? = some (.cells #[.int .i64 o, .int .i64 k, .int .i64 a, .int .i64 b, .string T, .string C, .string N, .string Y, .slice none 0 0] 27) := by rw [hW]; exact heap_last3 w _ _ _
  have hsz : W.heap.size = w.heap.size + 3 := by rw [hW]; simp
  clear hW
  refine (tiH.out W hbW).mono ?_
  rintro e w1 ⟨rfl, htab, hb1⟩
  have hX1 : w1.heap[w.heap.size + 1]? = some (.cells #[.int .i64 0, .int .i64 0, .int .i64 0, .int .i64 0, .string ⟨#[]⟩, .string ⟨#[]⟩, .string ⟨#[]⟩, .string ⟨#[]⟩, .slice none 0 0] 27) := by rw [hb1.block _ (by omega)]; exact hX
  have hO1 : w1.heap[w.heap.size + 1 + 1]? = some (.cells #[.int .i64 o, .int .i64 k, .int .i64 a, .int .i64 b, .string T, .string C, .string N, .string Y, .slice none 0 0] 27) := by rw [hb1.block _ (by omega)]; exact hO
  have hB1 : Hid (Below w.heap.size w w1) := below_below hbW hb1
  obtain ⟨g, hg⟩ : ∃ g, g = W.heap.size := ⟨_, rfl⟩
  obtain ⟨n, hn⟩ : ∃ n, n = zs.length := ⟨_, rfl⟩
  rw [← hg, ← hn] at htab ⊢
  have hgH : Hid (g = w.heap.size + 3) := hg.trans hsz
  have hnH : Hid (n = zs.length) := hn
  have htabH : Hid (Tab w1 (.slice (some ⟨g, 0, none⟩) n n) zs) := htab
  have hX2 : (w1.setCell ⟨w.heap.size + 1 + 1, 8, none⟩ (.slice (some ⟨g, 0, none⟩) n n)).heap[w.heap.size + 1]? = some (.cells #[.int .i64 0, .int .i64 0, .int .i64 0, .int .i64 0, .string ⟨#[]⟩, .string ⟨#[]⟩, .string ⟨#[]⟩, .string ⟨#[]⟩, .slice none 0 0] 27 (0, 0)) := by
    rw [setCell_eq_setRow w1 (w.heap.size + 1 + 1) 8 _ 27 (0, 0) _ hO1, setRow_other _ _ _ _ (by omega)]; exact hX1
  have o0 : w1.cell? ⟨w.heap.size + 1 + 1, 0, none⟩ = some (.int .i64 o) := by simp [World.cell?, hO1]
  have o1 : w1.cell? ⟨w.heap.size + 1 + 1, 1, none⟩ = some (.int .i64 k) := by simp [World.cell?, hO1]
  have o2 : w1.cell? ⟨w.heap.size + 1 + 1, 2, none⟩ = some (.int .i64 a) := by simp [World.cell?, hO1]
  have o3 : w1.cell? ⟨w.heap.size + 1 + 1, 3, none⟩ = some (.int .i64 b) := by simp [World.cell?, hO1]
  have o4 : w1.cell? ⟨w.heap.size + 1 + 1, 4, none⟩ = some (.string T) := by simp [World.cell?, hO1]
  have o5 : w1.cell? ⟨w.heap.size + 1 + 1, 5, none⟩ = some (.string C) := by simp [World.cell?, hO1]
  have o6 : w1.cell? ⟨w.heap.size + 1 + 1, 6, none⟩ = some (.string N) := by simp [World.cell?, hO1]
  have o7 : w1.cell? ⟨w.heap.size + 1 + 1, 7, none⟩ = some (.string Y) := by simp [World.cell?, hO1]
  have o8 : w1.cell? ⟨w.heap.size + 1 + 1, 8, none⟩ = some (.slice none 0 0) := by simp [World.cell?, hO1]
  have f8 : w1.frozen? ⟨w.heap.size + 1 + 1, 8, none⟩ = false := by simp [World.frozen?, hO1]
  have hO1H : Hid (w1.heap[w.heap.size + 1 + 1]? = some (.cells #[.int .i64 o, .int .i64 k, .int .i64 a, .int .i64 b, .string T, .string C, .string N, .string Y, .slice none 0 0] 27)) := hO1
  have z0 : w1.cell? ⟨w.heap.size + 1, 0, none⟩ = some (.int .i64 0) := by simp [World.cell?, hX1]
  have y0 : w1.frozen? ⟨w.heap.size + 1, 0, none⟩ = false := by simp [World.frozen?, hX1]
  have z1 : w1.cell? ⟨w.heap.size + 1, 1, none⟩ = some (.int .i64 0) := by simp [World.cell?, hX1]
  have y1 : w1.frozen? ⟨w.heap.size + 1, 1, none⟩ = false := by simp [World.frozen?, hX1]
  have z2 : w1.cell? ⟨w.heap.size + 1, 2, none⟩ = some (.int .i64 0) := by simp [World.cell?, hX1]
  have y2 : w1.frozen? ⟨w.heap.size + 1, 2, none⟩ = false := by simp [World.frozen?, hX1]
  have z3 : w1.cell? ⟨w.heap.size + 1, 3, none⟩ = some (.int .i64 0) := by simp [World.cell?, hX1]
  have y3 : w1.frozen? ⟨w.heap.size + 1, 3, none⟩ = false := by simp [World.frozen?, hX1]
  have z4 : w1.cell? ⟨w.heap.size + 1, 4, none⟩ = some (.string ⟨#[]⟩) := by simp [World.cell?, hX1]
  have y4 : w1.frozen? ⟨w.heap.size + 1, 4, none⟩ = false := by simp [World.frozen?, hX1]
  have z5 : w1.cell? ⟨w.heap.size + 1, 5, none⟩ = some (.string ⟨#[]⟩) := by simp [World.cell?, hX1]
  have y5 : w1.frozen? ⟨w.heap.size + 1, 5, none⟩ = false := by simp [World.frozen?, hX1]
  have z6 : w1.cell? ⟨w.heap.size + 1, 6, none⟩ = some (.string ⟨#[]⟩) := by simp [World.cell?, hX1]
  have y6 : w1.frozen? ⟨w.heap.size + 1, 6, none⟩ = false := by simp [World.frozen?, hX1]
  have z7 : w1.cell? ⟨w.heap.size + 1, 7, none⟩ = some (.string ⟨#[]⟩) := by simp [World.cell?, hX1]
  have y7 : w1.frozen? ⟨w.heap.size + 1, 7, none⟩ = false := by simp [World.frozen?, hX1]
  have z8 : w1.cell? ⟨w.heap.size + 1, 8, none⟩ = some (.slice none 0 0) := by simp [World.cell?, hX1]
  have y8 : w1.frozen? ⟨w.heap.size + 1, 8, none⟩ = false := by simp [World.frozen?, hX1]
  clear hX hO hsz hX1 hO1 hbW hb1 hg hn htab tiH
  go_wp2
  rw [set9 _ _ 27 hX2]
  refine bodyPost_ret (v := insV o k a b T C N Y (.slice (some ⟨g, 0, none⟩) n n)) (results_cell_row rfl _ _ (w.heap.size + 1) 27 _ (0, 0) _ rfl (setRow_heap _ _ _ _ 27 (0, 0) hX2) Tryz.underlying27 rfl (by kernel_rfl)) rfl ⟨_, rfl, ?_, ?_⟩
  · rcases htabH.out with ⟨h, _⟩ | ⟨g', c', hv, hlt, hc⟩
    · cases h
    · injection hv with h1 h2 h3
      injection h1 with h1
      injection h1 with h1
      subst h1
      have hg3 := hgH.out
      refine .inr ⟨g, c', by rw [← h2, ← h3], ?_, fun j hj => ?_⟩
      · simpa using hlt
      · rw [cell_setRow_other _ _ _ _ (by show g ≠ _; omega), World.cell?_setCell_far _ _ _ _ (by show w.heap.size + 1 + 1 ≠ g; omega)]
        exact hc j hj
  · exact below_setRow (hB1.out.setCell (by show w.heap.size ≤ w.heap.size + 1 + 1; omega) _) (by omega) _

set_option maxRecDepth 1000000 in
set_option maxHeartbeats 4000000 in
theorem eqIns_calls (o k a b : Int) (T C N Y : ByteArray) (u v : Value) (zs : List Int) (w : World) (hu : Tab w u zs) (hv : Tab w v zs) (hx : zs.length ≤ 1048576) :
    Calls Tryz.prog 8 #[insV o k a b T C N Y u, insV o k a b T C N Y v] w fun e w' => e = .returned (.bool true) ∧ Below w.heap.size w w' := by
  have intsH : Hid (∀ W, Below w.heap.size w W → Calls Tryz.prog 17 #[u, v] W fun e w' => e = .returned (.bool true) ∧ ∃ n, w' = W.drewN n) := fun W hW => by
    have := eqInts_calls u v zs zs W (hu.kept hW) (hv.kept hW) hx hx
    rwa [show (zs == zs) = true from by simp] at this
  obtain ⟨ta, c, rfl⟩ := hu.form
  obtain ⟨ta', c', rfl⟩ := hv.form
  have b1 : (o != o) = false := by simp
  have b2 : (k != k) = false := by simp
  have b3 : (a != a) = false := by simp
  have b4 : (b != b) = false := by simp
  have b5 : (T.toList != T.toList) = false := by simp
  have b6 : (C.toList != C.toList) = false := by simp
  have b7 : (N.toList != N.toList) = false := by simp
  have b8 : (Y.toList != Y.toList) = false := by simp
  clear hu hv hx
  go_enter Tryz.func8, Tryz.ntmps8
  go_wp2_with (go_at_call 17; refine (intsH.out _ (below2 _ _ _)).mono ?_; rintro e w1 ⟨rfl, nq, rfl⟩)
  go_ret
  exact ⟨rfl, below2n _ _ _ _⟩
end Go.Proofs.YtcencddbdidjjaaGreatDoor
