/- How great rows of objects are. -/
import Derived.Test.YtjhlbgohpofmnaaObA
namespace Go.Proofs.Ytjhlbgohpofmnaa
set_option linter.unusedVariables false
open Go.ChangeShapes Go.WideShapes Go.ChangeAt Go.RowKit

set_option maxRecDepth 1000000 in
set_option maxHeartbeats 2000000 in
theorem szObj_calls (x : ObjL) (hy : x.upto) : ElemSz 9 3 ObjR ObjL.sz x := by
  intro w row own lo hi l hh hx hl hl0 hl1
  obtain ⟨p, rfl, hp⟩ := hx
  have c1 : Hid (∀ (l : Int) (W : World), Below w.heap.size w W → 0 ≤ l → l ≤ 1048576 → Calls Try.prog 14 #[p, .int .i64 l] W fun e w' => SzQ l x.vals.length e ∧ Below W.heap.size W w') := fun l W hW h0 h1 =>
    szValS_calls x.vals hy.2.2 W p own lo hi l (Nat.le_trans hh hW.size) (hp.kept ValR.stable (Nat.le_refl _) (Nat.le_refl _) ((Same.below hW).mono (Nat.zero_le _) hh)) h0 h1
  obtain ⟨a1, k1, rfl⟩ := hp.form
  unfold ObjL.sz
  obtain ⟨hy1, hy2, hy3⟩ := hy
  generalize x.vals.length = n1 at *
  generalize x.ty = s1 at *
  generalize x.text = s2 at *
  clear hp hl hh
  by_cases h1 : l < s1.size
  · go_enter Try.func9, Try.ntmps9
    go_wp2
    go_ret
    exact ⟨SzQ.neg (by omega), below_1 _ _⟩
  by_cases h2 : l - s1.size < s2.size
  · go_enter Try.func9, Try.ntmps9
    go_wp2
    go_ret
    exact ⟨SzQ.neg (by omega), below_1 _ _⟩
  by_cases h3 : l - s1.size - s2.size < n1
  · go_enter Try.func9, Try.ntmps9
    go_wp2_with (first | (go_at_call 14; refine (c1.out _ _ (below_1 _ _) (by omega) (by omega)).mono ?_; rintro e w1 ⟨⟨r, rfl, hr1, hr2⟩, hb1⟩; obtain rfl := hr1 h3))
    go_ret
    exact ⟨SzQ.neg (by omega), below_on2 (below_1 _ _) hb1⟩
  · go_enter Try.func9, Try.ntmps9
    go_wp2_with (first | (go_at_call 14; refine (c1.out _ _ (below_1 _ _) (by omega) (by omega)).mono ?_; rintro e w1 ⟨⟨r, rfl, hr1, hr2⟩, hb1⟩; obtain rfl := hr2 (by omega)))
    go_ret
    exact ⟨SzQ.pos (by omega) (by omega), below_on2 (below_1 _ _) hb1⟩

set_option maxRecDepth 1000000 in
set_option maxHeartbeats 1000000 in
theorem szObjS_calls (v : Value) (xs : List ObjL) (w : World) (own : Bool) (lo hi : Nat) (l : Int) (hh : hi ≤ w.heap.size) (ht : ListAt ObjR 3 own lo hi w v xs) (hn : xs.length ≤ 9223372036854775807) (hl0 : 0 ≤ l) (hl1 : l ≤ 1048576) (hel : ∀ x ∈ xs, ElemSz 9 3 ObjR ObjL.sz x) :
    Calls Try.prog 4 #[v, .int .i64 l] w fun e w' => SzQ l (sumL ObjL.sz xs) e ∧ Below w.heap.size w w' := by
  have hldH : Hid ((Try.prog.info? 32).map (·.size) = some 3) := by show (Try.prog.info? 32).map (·.size) = some 3; kernel_rfl
  obtain ⟨a, c, rfl⟩ := ht.form
  have helH : Hid (∀ x ∈ xs, ElemSz 9 3 ObjR ObjL.sz x) := hel
  have htH : Hid (∀ wr, Below w.heap.size w wr → ListAt ObjR 3 own lo hi wr (.slice a xs.length c) xs) := fun wr hw => ht.kept ObjR.stable (Nat.le_refl _) (Nat.le_refl _) ((Same.below hw).mono (Nat.zero_le _) hh)
  have hhH : Hid (hi ≤ w.heap.size) := hh
  clear ht hel hh
  by_cases hc : l < xs.length
  · go_enter Try.func4, Try.ntmps4
    go_wp2
    go_ret
    exact ⟨SzQ.neg (by unfold sumL; omega), Below.refl _ _⟩
  go_enter Try.func4, Try.ntmps4
  go_wp2
  go_loopw [1, 5] (fun q i wr => ∃ (m : Nat) (z : Int), m ≤ xs.length ∧ q = .int .i64 z ∧ 0 ≤ z ∧ z ≤ 1048576 ∧ Hid (z = l - (xs.length + ((xs.take m).map ObjL.sz).sum : Nat)) ∧ i = .int .i64 m ∧ Hid (Below w.heap.size w wr)) (fun _ i _ => xs.length - (intOf i).toNat)
  case atStart => exact ⟨0, _, Nat.zero_le _, rfl, by omega, by omega, by simp [Hid], rfl, Below.refl _ _⟩
  case round =>
    obtain ⟨m, z, hm, rfl, hz0, hz1, hz, rfl, hB⟩ := hrel
    by_cases hlt : m < xs.length
    · obtain ⟨b, off, row, rfl, hbb, hrl, hrr, hrx⟩ := (htH.out wr hB.out).at m hlt
      have hlt' : (m : Int) < (xs.length : Int) := by omega
      have hcallH : Hid (Calls Try.prog 9 #[.agg row.toArray, .int .i64 z] wr fun e w' => SzQ z (ObjL.sz xs[m]) e ∧ Below wr.heap.size wr w') := helH.out xs[m] (List.getElem_mem hlt) wr row own lo hi z (Nat.le_trans hhH.out hB.out.size) hrx hrl hz0 hz1
      have hrrH : Hid (wr.rangeAt b (off + m * 3) row) := hrr
      have hrlH : Hid (row.length = 3) := hrl
      have hst : Hid (((xs.take (m + 1)).map ObjL.sz).sum = ((xs.take m).map ObjL.sz).sum + ObjL.sz xs[m]) := sum_take ObjL.sz xs m hlt
      have hle : Hid (((xs.take (m + 1)).map ObjL.sz).sum ≤ (xs.map ObjL.sz).sum) := sum_take_le ObjL.sz xs (m + 1)
      obtain ⟨n, hnn⟩ : ∃ n, n = ObjL.sz xs[m] := ⟨_, rfl⟩
      rw [← hnn] at hcallH hst
      clear hrr hrl hrx hnn
      by_cases hcc : z < n
      · go_wp2_with (first
          | (refine wpList_load_mid rfl 32 _ rfl b (off + m * 3) (by first | rfl | (simp; done)) row _ hrrH.out Try.underlying32 rfl (by rw [hrlH.out]; exact hldH.out) ?_)
          | (go_at_call 9; refine hcallH.out.mono ?_; rintro e w2 ⟨⟨r, rfl, hr1, hr2⟩, hb2⟩; obtain rfl := hr1 hcc))
        go_ret
        have := hz.out; have := hst.out; have := hle.out
        exact ⟨SzQ.neg (by unfold sumL; omega), below_on2 hB.out hb2⟩
      · go_wp2_with (first
          | (refine wpList_load_mid rfl 32 _ rfl b (off + m * 3) (by first | rfl | (simp; done)) row _ hrrH.out Try.underlying32 rfl (by rw [hrlH.out]; exact hldH.out) ?_)
          | (go_at_call 9; refine hcallH.out.mono ?_; rintro e w2 ⟨⟨r, rfl, hr1, hr2⟩, hb2⟩; obtain rfl := hr2 (by omega)))
        go_roundw
        case rel =>
          have := hz.out; have := hst.out
          exact ⟨m + 1, _, by omega, rfl, by omega, by omega, (show _ = _ by omega), by go_num, below_on2 hB.out hb2⟩
        case measure => simp [intOf]; omega
    · go_wp2
      go_ret
      have h := hz.out
      rw [List.take_of_length_le (by omega)] at h
      exact ⟨SzQ.pos (by unfold sumL; omega) (by unfold sumL; omega), hB.out⟩
end Go.Proofs.Ytjhlbgohpofmnaa
