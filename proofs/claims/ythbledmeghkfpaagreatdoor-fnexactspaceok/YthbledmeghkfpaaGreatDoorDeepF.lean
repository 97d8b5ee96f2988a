/- How great a method is: what the law counts. -/
import Derived.Test.YthbledmeghkfpaaGreatDoorDeepA
import Derived.Deep.Slices
import Derived.OpenShut
namespace Go.Proofs.YthbledmeghkfpaaGreatDoor
set_option linter.unusedVariables false
open Go.ChangeShapes Go.WideShapes Go.ChangeAt Go.RowKit

def SzQ (l : Int) (n : Nat) (e : Ending) : Prop := ∃ r, e = .returned (.int .i64 r) ∧ (l < n → r = -1) ∧ (n ≤ l → r = l - n)
theorem SzQ.neg {l : Int} {n : Nat} (h : l < n) : SzQ l n (.returned (.int .i64 (-1))) := ⟨_, rfl, fun _ => rfl, fun h' => by omega⟩
theorem SzQ.pos {l : Int} {n : Nat} {r : Int} (h : n ≤ l) (hr : r = l - n) : SzQ l n (.returned (.int .i64 r)) := ⟨_, rfl, fun h' => by omega, fun _ => hr⟩
theorem below_1 (w : World) (a : Obj) : Below w.heap.size w (w.alloc a) := (Below.refl _ _).alloc (Nat.le_refl _) _
def sumL {α : Type} (f : α → Nat) (xs : List α) : Nat := xs.length + (xs.map f).sum
def InsL.sz (x : InsL) : Nat := x.T.size + x.C.size + x.N.size + x.Y.size + x.zs.length
def HandL.sz (x : HandL) : Nat := x.ty.size
def FrameL.sz (x : FrameL) : Nat := sumL ByteArray.size x.locs + sumL ByteArray.size x.stk
def MethL.sz (x : MethL) : Nat := x.name.size + x.sig.size + sumL InsL.sz x.code + sumL HandL.sz x.hands + sumL FrameL.sz x.frames + x.lines.length
def InsL.upto (x : InsL) : Prop := x.T.size ≤ 9223372036854775807 ∧ x.C.size ≤ 9223372036854775807 ∧ x.N.size ≤ 9223372036854775807 ∧ x.Y.size ≤ 9223372036854775807 ∧ x.zs.length ≤ 9223372036854775807
def HandL.upto (x : HandL) : Prop := x.ty.size ≤ 9223372036854775807
def FrameL.upto (x : FrameL) : Prop := x.locs.length ≤ 9223372036854775807 ∧ x.stk.length ≤ 9223372036854775807 ∧ (∀ s ∈ x.locs, s.size ≤ 9223372036854775807) ∧ (∀ s ∈ x.stk, s.size ≤ 9223372036854775807)
def MethL.upto (x : MethL) : Prop := x.name.size ≤ 9223372036854775807 ∧ x.sig.size ≤ 9223372036854775807 ∧ (x.code.length ≤ 9223372036854775807 ∧ ∀ y ∈ x.code, y.upto) ∧ (x.hands.length ≤ 9223372036854775807 ∧ ∀ y ∈ x.hands, y.upto) ∧ (x.frames.length ≤ 9223372036854775807 ∧ ∀ y ∈ x.frames, y.upto) ∧ x.lines.length ≤ 9223372036854775807
theorem sum_take {α : Type} (f : α → Nat) : ∀ (xs : List α) (m : Nat) (h : m < xs.length), ((xs.take (m + 1)).map f).sum = ((xs.take m).map f).sum + f xs[m]
  | [], _, h => by simp at h
  | x :: r, 0, _ => by simp
  | x :: r, m + 1, h => by
    have := sum_take f r m (by simpa using h)
    simp only [List.take_succ_cons, List.map_cons, List.sum_cons, List.getElem_cons_succ]
    omega
theorem sum_take_le {α : Type} (f : α → Nat) : ∀ (xs : List α) (m : Nat), ((xs.take m).map f).sum ≤ (xs.map f).sum
  | [], _ => by simp
  | x :: r, 0 => by simp
  | x :: r, m + 1 => by
    have := sum_take_le f r m
    simp only [List.take_succ_cons, List.map_cons, List.sum_cons]
    omega
theorem sum_mem_le {α : Type} (f : α → Nat) : ∀ (xs : List α) (x : α), x ∈ xs → f x ≤ (xs.map f).sum
  | y :: r, x, h => by
    simp only [List.map_cons, List.sum_cons]
    rcases List.mem_cons.1 h with rfl | h
    · omega
    · have := sum_mem_le f r x h; omega

def ElemSz {α : Type} (f k : Nat) (R : Rd α) (sz : α → Nat) (x : α) : Prop := ∀ (W : World) (row : List Value) (own : Bool) (lo hi : Nat) (l : Int), hi ≤ W.heap.size → R own lo hi W row x → row.length = k → 0 ≤ l → l ≤ 1048576 → Calls Tryz.prog f #[.agg row.toArray, .int .i64 l] W fun e w' => SzQ l (sz x) e ∧ Below W.heap.size W w'

theorem below_on2 {w W w' : World} (h : Below w.heap.size w W) (h2 : Below W.heap.size W w') : Below w.heap.size w w' := h.trans (h2.mono h.size)

set_option maxRecDepth 1000000 in
set_option maxHeartbeats 1000000 in
theorem szInsS_calls (v : Value) (xs : List InsL) (w : World) (own : Bool) (lo hi : Nat) (l : Int) (hh : hi ≤ w.heap.size) (ht : ListAt InsR 9 own lo hi w v xs) (hn : xs.length ≤ 9223372036854775807) (hl0 : 0 ≤ l) (hl1 : l ≤ 1048576) (hel : ∀ x ∈ xs, ElemSz 101 9 InsR InsL.sz x) :
    Calls Tryz.prog 77 #[v, .int .i64 l] w fun e w' => SzQ l (sumL InsL.sz xs) e ∧ Below w.heap.size w w' := by
  have hldH : Hid ((Tryz.prog.info? 123).map (·.size) = some 9) := by show (Tryz.prog.info? 123).map (·.size) = some 9; kernel_rfl
  obtain ⟨a, c, rfl⟩ := ht.form
  have helH : Hid (∀ x ∈ xs, ElemSz 101 9 InsR InsL.sz x) := hel
  have htH : Hid (∀ wr, Below w.heap.size w wr → ListAt InsR 9 own lo hi wr (.slice a xs.length c) xs) := fun wr hw => ht.kept InsR.stable (Nat.le_refl _) (Nat.le_refl _) ((Same.below hw).mono (Nat.zero_le _) hh)
  have hhH : Hid (hi ≤ w.heap.size) := hh
  clear ht hel hh
  by_cases hc : l < xs.length
  · go_enter Tryz.func77, Tryz.ntmps77
    go_wp2
    go_ret
    exact ⟨SzQ.neg (by unfold sumL; omega), Below.refl _ _⟩
  go_enter Tryz.func77, Tryz.ntmps77
  go_wp2
  go_loopw [1, 5] (fun q i wr => ∃ (m : Nat) (z : Int), m ≤ xs.length ∧ q = .int .i64 z ∧ 0 ≤ z ∧ z ≤ 1048576 ∧ Hid (z = l - (xs.length + ((xs.take m).map InsL.sz).sum : Nat)) ∧ i = .int .i64 m ∧ Hid (Below w.heap.size w wr)) (fun _ i _ => xs.length - (intOf i).toNat)
  case atStart => exact ⟨0, _, Nat.zero_le _, rfl, by omega, by omega, by simp [Hid], rfl, Below.refl _ _⟩
  case round =>
    obtain ⟨m, z, hm, rfl, hz0, hz1, hz, rfl, hB⟩ := hrel
    by_cases hlt : m < xs.length
    · obtain ⟨b, off, row, rfl, hbb, hrl, hrr, hrx⟩ := (htH.out wr hB.out).at m hlt
      have hlt' : (m : Int) < (xs.length : Int) := by omega
      have hcallH : Hid (Calls Tryz.prog 101 #[.agg row.toArray, .int .i64 z] wr fun e w' => SzQ z (InsL.sz xs[m]) e ∧ Below wr.heap.size wr w') := helH.out xs[m] (List.getElem_mem hlt) wr row own lo hi z (Nat.le_trans hhH.out hB.out.size) hrx hrl hz0 hz1
      have hrrH : Hid (wr.rangeAt b (off + m * 9) row) := hrr
      have hrlH : Hid (row.length = 9) := hrl
      have hst : Hid (((xs.take (m + 1)).map InsL.sz).sum = ((xs.take m).map InsL.sz).sum + InsL.sz xs[m]) := sum_take InsL.sz xs m hlt
      have hle : Hid (((xs.take (m + 1)).map InsL.sz).sum ≤ (xs.map InsL.sz).sum) := sum_take_le InsL.sz xs (m + 1)
      obtain ⟨n, hnn⟩ : ∃ n, n = InsL.sz xs[m] := ⟨_, rfl⟩
      rw [← hnn] at hcallH hst
      clear hrr hrl hrx hnn
      by_cases hcc : z < n
      · go_wp2_with (first
          | (refine wpList_load_mid rfl 123 _ rfl b (off + m * 9) (by first | rfl | (simp; done)) row _ hrrH.out Tryz.underlying123 rfl (by rw [hrlH.out]; exact hldH.out) ?_)
          | (go_at_call 101; refine hcallH.out.mono ?_; rintro e w2 ⟨⟨r, rfl, hr1, hr2⟩, hb2⟩; obtain rfl := hr1 hcc))
        go_ret
        have := hz.out; have := hst.out; have := hle.out
        exact ⟨SzQ.neg (by unfold sumL; omega), below_on2 hB.out hb2⟩
      · go_wp2_with (first
          | (refine wpList_load_mid rfl 123 _ rfl b (off + m * 9) (by first | rfl | (simp; done)) row _ hrrH.out Tryz.underlying123 rfl (by rw [hrlH.out]; exact hldH.out) ?_)
          | (go_at_call 101; refine hcallH.out.mono ?_; rintro e w2 ⟨⟨r, rfl, hr1, hr2⟩, hb2⟩; obtain rfl := hr2 (by omega)))
        go_roundw
        case rel =>
          have := hz.out; have := hst.out
          exact ⟨m + 1, _, by omega, rfl, by omega, by omega, (show _ = _ by omega), by go_num, below_on2 hB.out hb2⟩
        case measure => simp [intOf]; omega
    · go_wp2
      go_ret
      have h := hz.out
      rw [List.take_of_length_le (by omega)] at h
      exact ⟨SzQ.pos (by unfold sumL; omega) (by unfold sumL; omega), hB.out⟩

set_option maxRecDepth 1000000 in
set_option maxHeartbeats 1000000 in
theorem szHandS_calls (v : Value) (xs : List HandL) (w : World) (own : Bool) (lo hi : Nat) (l : Int) (hh : hi ≤ w.heap.size) (ht : ListAt HandR 4 own lo hi w v xs) (hn : xs.length ≤ 9223372036854775807) (hl0 : 0 ≤ l) (hl1 : l ≤ 1048576) (hel : ∀ x ∈ xs, ElemSz 102 4 HandR HandL.sz x) :
    Calls Tryz.prog 78 #[v, .int .i64 l] w fun e w' => SzQ l (sumL HandL.sz xs) e ∧ Below w.heap.size w w' := by
  have hldH : Hid ((Tryz.prog.info? 126).map (·.size) = some 4) := by show (Tryz.prog.info? 126).map (·.size) = some 4; kernel_rfl
  obtain ⟨a, c, rfl⟩ := ht.form
  have helH : Hid (∀ x ∈ xs, ElemSz 102 4 HandR HandL.sz x) := hel
  have htH : Hid (∀ wr, Below w.heap.size w wr → ListAt HandR 4 own lo hi wr (.slice a xs.length c) xs) := fun wr hw => ht.kept HandR.stable (Nat.le_refl _) (Nat.le_refl _) ((Same.below hw).mono (Nat.zero_le _) hh)
  have hhH : Hid (hi ≤ w.heap.size) := hh
  clear ht hel hh
  by_cases hc : l < xs.length
  · go_enter Tryz.func78, Tryz.ntmps78
    go_wp2
    go_ret
    exact ⟨SzQ.neg (by unfold sumL; omega), Below.refl _ _⟩
  go_enter Tryz.func78, Tryz.ntmps78
  go_wp2
  go_loopw [1, 5] (fun q i wr => ∃ (m : Nat) (z : Int), m ≤ xs.length ∧ q = .int .i64 z ∧ 0 ≤ z ∧ z ≤ 1048576 ∧ Hid (z = l - (xs.length + ((xs.take m).map HandL.sz).sum : Nat)) ∧ i = .int .i64 m ∧ Hid (Below w.heap.size w wr)) (fun _ i _ => xs.length - (intOf i).toNat)
  case atStart => exact ⟨0, _, Nat.zero_le _, rfl, by omega, by omega, by simp [Hid], rfl, Below.refl _ _⟩
  case round =>
    obtain ⟨m, z, hm, rfl, hz0, hz1, hz, rfl, hB⟩ := hrel
    by_cases hlt : m < xs.length
    · obtain ⟨b, off, row, rfl, hbb, hrl, hrr, hrx⟩ := (htH.out wr hB.out).at m hlt
      have hlt' : (m : Int) < (xs.length : Int) := by omega
      have hcallH : Hid (Calls Tryz.prog 102 #[.agg row.toArray, .int .i64 z] wr fun e w' => SzQ z (HandL.sz xs[m]) e ∧ Below wr.heap.size wr w') := helH.out xs[m] (List.getElem_mem hlt) wr row own lo hi z (Nat.le_trans hhH.out hB.out.size) hrx hrl hz0 hz1
      have hrrH : Hid (wr.rangeAt b (off + m * 4) row) := hrr
      have hrlH : Hid (row.length = 4) := hrl
      have hst : Hid (((xs.take (m + 1)).map HandL.sz).sum = ((xs.take m).map HandL.sz).sum + HandL.sz xs[m]) := sum_take HandL.sz xs m hlt
      have hle : Hid (((xs.take (m + 1)).map HandL.sz).sum ≤ (xs.map HandL.sz).sum) := sum_take_le HandL.sz xs (m + 1)
      obtain ⟨n, hnn⟩ : ∃ n, n = HandL.sz xs[m] := ⟨_, rfl⟩
      rw [← hnn] at hcallH hst
      clear hrr hrl hrx hnn
      by_cases hcc : z < n
      · go_wp2_with (first
          | (refine wpList_load_mid rfl 126 _ rfl b (off + m * 4) (by first | rfl | (simp; done)) row _ hrrH.out Tryz.underlying126 rfl (by rw [hrlH.out]; exact hldH.out) ?_)
          | (go_at_call 102; refine hcallH.out.mono ?_; rintro e w2 ⟨⟨r, rfl, hr1, hr2⟩, hb2⟩; obtain rfl := hr1 hcc))
        go_ret
        have := hz.out; have := hst.out; have := hle.out
        exact ⟨SzQ.neg (by unfold sumL; omega), below_on2 hB.out hb2⟩
      · go_wp2_with (first
          | (refine wpList_load_mid rfl 126 _ rfl b (off + m * 4) (by first | rfl | (simp; done)) row _ hrrH.out Tryz.underlying126 rfl (by rw [hrlH.out]; exact hldH.out) ?_)
          | (go_at_call 102; refine hcallH.out.mono ?_; rintro e w2 ⟨⟨r, rfl, hr1, hr2⟩, hb2⟩; obtain rfl := hr2 (by omega)))
        go_roundw
        case rel =>
          have := hz.out; have := hst.out
          exact ⟨m + 1, _, by omega, rfl, by omega, by omega, (show _ = _ by omega), by go_num, below_on2 hB.out hb2⟩
        case measure => simp [intOf]; omega
    · go_wp2
      go_ret
      have h := hz.out
      rw [List.take_of_length_le (by omega)] at h
      exact ⟨SzQ.pos (by unfold sumL; omega) (by unfold sumL; omega), hB.out⟩

set_option maxRecDepth 1000000 in
set_option maxHeartbeats 1000000 in
theorem szFrameS_calls (v : Value) (xs : List FrameL) (w : World) (own : Bool) (lo hi : Nat) (l : Int) (hh : hi ≤ w.heap.size) (ht : ListAt FrameR 3 own lo hi w v xs) (hn : xs.length ≤ 9223372036854775807) (hl0 : 0 ≤ l) (hl1 : l ≤ 1048576) (hel : ∀ x ∈ xs, ElemSz 103 3 FrameR FrameL.sz x) :
    Calls Tryz.prog 79 #[v, .int .i64 l] w fun e w' => SzQ l (sumL FrameL.sz xs) e ∧ Below w.heap.size w w' := by
  have hldH : Hid ((Tryz.prog.info? 129).map (·.size) = some 3) := by show (Tryz.prog.info? 129).map (·.size) = some 3; kernel_rfl
  obtain ⟨a, c, rfl⟩ := ht.form
  have helH : Hid (∀ x ∈ xs, ElemSz 103 3 FrameR FrameL.sz x) := hel
  have htH : Hid (∀ wr, Below w.heap.size w wr → ListAt FrameR 3 own lo hi wr (.slice a xs.length c) xs) := fun wr hw => ht.kept FrameR.stable (Nat.le_refl _) (Nat.le_refl _) ((Same.below hw).mono (Nat.zero_le _) hh)
  have hhH : Hid (hi ≤ w.heap.size) := hh
  clear ht hel hh
  by_cases hc : l < xs.length
  · go_enter Tryz.func79, Tryz.ntmps79
    go_wp2
    go_ret
    exact ⟨SzQ.neg (by unfold sumL; omega), Below.refl _ _⟩
  go_enter Tryz.func79, Tryz.ntmps79
  go_wp2
  go_loopw [1, 5] (fun q i wr => ∃ (m : Nat) (z : Int), m ≤ xs.length ∧ q = .int .i64 z ∧ 0 ≤ z ∧ z ≤ 1048576 ∧ Hid (z = l - (xs.length + ((xs.take m).map FrameL.sz).sum : Nat)) ∧ i = .int .i64 m ∧ Hid (Below w.heap.size w wr)) (fun _ i _ => xs.length - (intOf i).toNat)
  case atStart => exact ⟨0, _, Nat.zero_le _, rfl, by omega, by omega, by simp [Hid], rfl, Below.refl _ _⟩
  case round =>
    obtain ⟨m, z, hm, rfl, hz0, hz1, hz, rfl, hB⟩ := hrel
    by_cases hlt : m < xs.length
    · obtain ⟨b, off, row, rfl, hbb, hrl, hrr, hrx⟩ := (htH.out wr hB.out).at m hlt
      have hlt' : (m : Int) < (xs.length : Int) := by omega
      have hcallH : Hid (Calls Tryz.prog 103 #[.agg row.toArray, .int .i64 z] wr fun e w' => SzQ z (FrameL.sz xs[m]) e ∧ Below wr.heap.size wr w') := helH.out xs[m] (List.getElem_mem hlt) wr row own lo hi z (Nat.le_trans hhH.out hB.out.size) hrx hrl hz0 hz1
      have hrrH : Hid (wr.rangeAt b (off + m * 3) row) := hrr
      have hrlH : Hid (row.length = 3) := hrl
      have hst : Hid (((xs.take (m + 1)).map FrameL.sz).sum = ((xs.take m).map FrameL.sz).sum + FrameL.sz xs[m]) := sum_take FrameL.sz xs m hlt
      have hle : Hid (((xs.take (m + 1)).map FrameL.sz).sum ≤ (xs.map FrameL.sz).sum) := sum_take_le FrameL.sz xs (m + 1)
      obtain ⟨n, hnn⟩ : ∃ n, n = FrameL.sz xs[m] := ⟨_, rfl⟩
      rw [← hnn] at hcallH hst
      clear hrr hrl hrx hnn
      by_cases hcc : z < n
      · go_wp2_with (first
          | (refine wpList_load_mid rfl 129 _ rfl b (off + m * 3) (by first | rfl | (simp; done)) row _ hrrH.out Tryz.underlying129 rfl (by rw [hrlH.out]; exact hldH.out) ?_)
          | (go_at_call 103; refine hcallH.out.mono ?_; rintro e w2 ⟨⟨r, rfl, hr1, hr2⟩, hb2⟩; obtain rfl := hr1 hcc))
        go_ret
        have := hz.out; have := hst.out; have := hle.out
        exact ⟨SzQ.neg (by unfold sumL; omega), below_on2 hB.out hb2⟩
      · go_wp2_with (first
          | (refine wpList_load_mid rfl 129 _ rfl b (off + m * 3) (by first | rfl | (simp; done)) row _ hrrH.out Tryz.underlying129 rfl (by rw [hrlH.out]; exact hldH.out) ?_)
          | (go_at_call 103; refine hcallH.out.mono ?_; rintro e w2 ⟨⟨r, rfl, hr1, hr2⟩, hb2⟩; obtain rfl := hr2 (by omega)))
        go_roundw
        case rel =>
          have := hz.out; have := hst.out
          exact ⟨m + 1, _, by omega, rfl, by omega, by omega, (show _ = _ by omega), by go_num, below_on2 hB.out hb2⟩
        case measure => simp [intOf]; omega
    · go_wp2
      go_ret
      have h := hz.out
      rw [List.take_of_length_le (by omega)] at h
      exact ⟨SzQ.pos (by unfold sumL; omega) (by unfold sumL; omega), hB.out⟩

set_option maxRecDepth 1000000 in
set_option maxHeartbeats 1000000 in
theorem szStrs_calls (v : Value) (xs : List ByteArray) (w : World) (own : Bool) (lo hi : Nat) (l : Int) (ht : ListAt StrR 1 own lo hi w v xs) (hn : xs.length ≤ 9223372036854775807) (hs : ∀ s ∈ xs, s.size ≤ 9223372036854775807) (hl0 : 0 ≤ l) (hl1 : l ≤ 1048576) :
    Calls Tryz.prog 20 #[v, .int .i64 l] w fun e w' => SzQ l (sumL ByteArray.size xs) e ∧ w' = w := by
  obtain ⟨a, c, rfl⟩ := ht.form
  have htH : Hid (ListAt StrR 1 own lo hi w (.slice a xs.length c) xs) := ht
  have hsH : Hid (∀ s ∈ xs, s.size ≤ 9223372036854775807) := hs
  clear ht hs
  by_cases hc : l < xs.length
  · go_enter Tryz.func20, Tryz.ntmps20
    go_wp2
    go_ret
    exact ⟨SzQ.neg (by unfold sumL; omega), rfl⟩
  go_enter Tryz.func20, Tryz.ntmps20
  go_wp2
  go_loopw [1, 5] (fun q i wr => ∃ (m : Nat) (z : Int), m ≤ xs.length ∧ q = .int .i64 z ∧ 0 ≤ z ∧ z ≤ 1048576 ∧ Hid (z = l - (xs.length + ((xs.take m).map ByteArray.size).sum : Nat)) ∧ i = .int .i64 m ∧ wr = w) (fun _ i _ => xs.length - (intOf i).toNat)
  case atStart => exact ⟨0, _, Nat.zero_le _, rfl, by omega, by omega, by simp [Hid], rfl, rfl⟩
  case round =>
    obtain ⟨m, z, hm, rfl, hz0, hz1, hz, rfl, rfl⟩ := hrel
    by_cases hlt : m < xs.length
    · obtain ⟨b, off, row, rfl, hbb, hrl, hrr, hrx⟩ := htH.out.at m hlt
      have hrow : row = [.string xs[m]] := hrx
      have hcell : wr.cell? ⟨b, off + m, none⟩ = some (.string xs[m]) := by simpa using hrr 0 (.string xs[m]) (by rw [hrow]; rfl)
      have hlt' : (m : Int) < (xs.length : Int) := by omega
      have hst : Hid (((xs.take (m + 1)).map ByteArray.size).sum = ((xs.take m).map ByteArray.size).sum + xs[m].size) := sum_take ByteArray.size xs m hlt
      have hle : Hid (((xs.take (m + 1)).map ByteArray.size).sum ≤ (xs.map ByteArray.size).sum) := sum_take_le ByteArray.size xs (m + 1)
      have hsm : xs[m].size ≤ 9223372036854775807 := hsH.out _ (List.getElem_mem hlt)
      obtain ⟨s, hs⟩ : ∃ s, s = xs[m] := ⟨_, rfl⟩
      rw [← hs] at hcell hst hsm
      clear hrr hrl hrx hrow hs
      by_cases hcc : z < s.size
      · go_wp2
        go_ret
        have := hz.out; have := hst.out; have := hle.out
        exact ⟨SzQ.neg (by unfold sumL; omega), rfl⟩
      · go_wp2
        go_roundw
        case rel =>
          have := hz.out; have := hst.out
          exact ⟨m + 1, _, by omega, rfl, by omega, by omega, (show _ = _ by omega), by go_num, trivial⟩
        case measure => simp [intOf]; omega
    · go_wp2
      go_ret
      have h := hz.out
      rw [List.take_of_length_le (by omega)] at h
      exact ⟨SzQ.pos (by unfold sumL; omega) (by unfold sumL; omega), rfl⟩

theorem szInts_callsL (a : Option Addr) (n c : Nat) (l : Int) (w : World) (hn : n ≤ 9223372036854775807) (hl0 : 0 ≤ l) (hl1 : l ≤ 1048576) :
    Calls Tryz.prog 123 #[.slice a n c, .int .i64 l] w fun e w' => SzQ l n e ∧ w' = w := by
  by_cases h : l < n
  · go_enter Tryz.func123, Tryz.ntmps123
    go_wp2
    go_ret
    exact ⟨SzQ.neg h, rfl⟩
  · go_enter Tryz.func123, Tryz.ntmps123
    go_wp2
    go_ret
    exact ⟨SzQ.pos (by omega) rfl, rfl⟩
theorem szLineS_calls (a : Option Addr) (n c : Nat) (l : Int) (w : World) (hn : n ≤ 9223372036854775807) (hl0 : 0 ≤ l) (hl1 : l ≤ 1048576) :
    Calls Tryz.prog 80 #[.slice a n c, .int .i64 l] w fun e w' => SzQ l n e ∧ w' = w := by
  by_cases h : l < n
  · go_enter Tryz.func80, Tryz.ntmps80
    go_wp2
    go_ret
    exact ⟨SzQ.neg h, rfl⟩
  · go_enter Tryz.func80, Tryz.ntmps80
    go_wp2
    go_ret
    exact ⟨SzQ.pos (by omega) rfl, rfl⟩

set_option maxRecDepth 1000000 in
set_option maxHeartbeats 1000000 in
theorem szIns_callsL (x : InsL) (hy : x.upto) : ElemSz 101 9 InsR InsL.sz x := by
  intro w row own lo hi l hh hx hl hl0 hl1
  obtain ⟨v, rfl, hv⟩ := hx
  obtain ⟨ta, c, rfl⟩ := hv.form
  obtain ⟨hT, hC, hN, hY, hz⟩ := hy
  unfold InsL.sz
  obtain ⟨n, hn⟩ : ∃ n, n = x.zs.length := ⟨_, rfl⟩
  rw [← hn] at hz ⊢
  have szH : Hid (∀ (l : Int) (w : World), 0 ≤ l → l ≤ 1048576 → Calls Tryz.prog 123 #[.slice ta n c, .int .i64 l] w fun e w' => SzQ l n e ∧ w' = w) := fun l w h0 h1 => szInts_callsL ta n c l w hz h0 h1
  clear hv hl hh hn
  go_enter Tryz.func101, Tryz.ntmps101
  go_wp2_with (go_at_call 123; refine (szH.out _ _ (by omega) (by omega)).mono ?_; rintro e w' ⟨⟨r, rfl, hr1, hr2⟩, he⟩; subst he)
  all_goals (
    go_ret
    refine ⟨?_, below_1 _ _⟩
    go_light
    clear szH
    first | exact SzQ.neg (by omega) | exact SzQ.pos (by omega) (by omega))
set_option maxRecDepth 1000000 in
set_option maxHeartbeats 1000000 in
theorem szHand_calls (x : HandL) (hy : x.upto) : ElemSz 102 4 HandR HandL.sz x := by
  intro w row own lo hi l hh hx hl hl0 hl1
  obtain rfl : row = [.int .i64 x.fr, .int .i64 x.to, .int .i64 x.at', .string x.ty] := hx
  have hT : x.ty.size ≤ 9223372036854775807 := hy
  unfold HandL.sz
  clear hl hh hy
  go_enter Tryz.func102, Tryz.ntmps102
  go_wp2
  all_goals (
    go_ret
    refine ⟨?_, below_1 _ _⟩
    go_light
    first | exact SzQ.neg (by omega) | exact SzQ.pos (by omega) (by omega))
set_option maxRecDepth 1000000 in
set_option maxHeartbeats 1000000 in
theorem szFrame_calls (x : FrameL) (hy : x.upto) : ElemSz 103 3 FrameR FrameL.sz x := by
  intro w row own lo hi l hh hx hl hl0 hl1
  obtain ⟨u, v, rfl, hu, hv⟩ := hx
  have c1 : Hid (∀ (l : Int) (W : World), Below w.heap.size w W → 0 ≤ l → l ≤ 1048576 → Calls Tryz.prog 20 #[u, .int .i64 l] W fun e w' => SzQ l (sumL ByteArray.size x.locs) e ∧ w' = W) := fun l W hW h0 h1 =>
    szStrs_calls u x.locs W own lo hi l (hu.kept StrR.stable (Nat.le_refl _) (Nat.le_refl _) ((Same.below hW).mono (Nat.zero_le _) hh)) hy.1 hy.2.2.1 h0 h1
  have c2 : Hid (∀ (l : Int) (W : World), Below w.heap.size w W → 0 ≤ l → l ≤ 1048576 → Calls Tryz.prog 20 #[v, .int .i64 l] W fun e w' => SzQ l (sumL ByteArray.size x.stk) e ∧ w' = W) := fun l W hW h0 h1 =>
    szStrs_calls v x.stk W own lo hi l (hv.kept StrR.stable (Nat.le_refl _) (Nat.le_refl _) ((Same.below hW).mono (Nat.zero_le _) hh)) hy.2.1 hy.2.2.2 h0 h1
  unfold FrameL.sz
  generalize sumL ByteArray.size x.locs = n1 at *
  generalize sumL ByteArray.size x.stk = n2 at *
  obtain ⟨a1, k1, rfl⟩ := hu.form
  obtain ⟨a2, k2, rfl⟩ := hv.form
  clear hu hv hy hl hh
  go_enter Tryz.func103, Tryz.ntmps103
  go_wp2_with fail
  refine (c1.out l _ (below_1 _ _) (by omega) (by omega)).mono ?_
  rintro e w1 ⟨⟨r, rfl, hr1, hr2⟩, rfl⟩
  by_cases h1 : l < n1
  · obtain rfl := hr1 h1
    go_wp2
    go_ret
    exact ⟨SzQ.neg (by omega), below_1 _ _⟩
  obtain rfl := hr2 (by omega)
  clear hr1 hr2
  go_wp2_with fail
  refine (c2.out _ _ (below_1 _ _) (by omega) (by omega)).mono ?_
  rintro e w1 ⟨⟨r, rfl, hr1, hr2⟩, rfl⟩
  by_cases h2 : l - n1 < n2
  · obtain rfl := hr1 h2
    go_wp2
    go_ret
    exact ⟨SzQ.neg (by omega), below_1 _ _⟩
  obtain rfl := hr2 (by omega)
  clear hr1 hr2
  go_wp2
  go_ret
  exact ⟨SzQ.pos (by omega) (by omega), below_1 _ _⟩

/-- A record under way: in a block of its own. -/
structure Rec1 (w W : World) (I : List Value) : Prop where
  hb : Below w.heap.size w W
  sz : w.heap.size + 1 ≤ W.heap.size
  one : W.rangeAt w.heap.size 0 I
theorem Rec1.start {w W : World} {I : Array Value} {t : TypeId} (hW : W = w.alloc (.cells I t)) : Rec1 w W I.toList := by
  have h0 : W.heap[w.heap.size]? = some (.cells I t (0, 0)) := by rw [hW]; exact heap_alloc_new w _
  exact ⟨by rw [hW]; exact below_1 _ _, by rw [hW]; simp, rangeAt_heap h0⟩
theorem Rec1.call {w W w1 : World} {I : List Value} (h : Rec1 w W I) (hb : Below W.heap.size W w1) : Rec1 w w1 I := by
  obtain ⟨h1, h2, h3⟩ := h
  have := hb.size
  exact ⟨below_on2 h1 hb, by omega, rangeAt_same (Same.below hb) (Nat.zero_le _) (by omega) h3⟩
theorem Rec1.cell {w W : World} {I : List Value} (h : Rec1 w W I) (i : Nat) (v : Value) (hv : I[i]? = some v) : W.cell? ⟨w.heap.size, i, none⟩ = some v := by simpa using h.one i v hv

set_option maxRecDepth 1000000 in
set_option maxHeartbeats 4000000 in
theorem szMeth_calls (x : MethL) (hy : x.upto) : ElemSz 45 9 MethR MethL.sz x := by
  intro w row own lo hi l hh hx hl hl0 hl1
  obtain ⟨p, q, s, t, rfl, hp, hq, hs, ht⟩ := hx
  obtain ⟨hN, hS, ⟨hc0, hc1⟩, ⟨hd0, hd1⟩, ⟨hf0, hf1⟩, hl9⟩ := hy
  have c1 : Hid (∀ (l : Int) (W : World), Below w.heap.size w W → 0 ≤ l → l ≤ 1048576 → Calls Tryz.prog 77 #[p, .int .i64 l] W fun e w' => SzQ l (sumL InsL.sz x.code) e ∧ Below W.heap.size W w') := fun l W hW h0 h1 =>
    szInsS_calls p x.code W own lo hi l (Nat.le_trans hh hW.size) (hp.kept InsR.stable (Nat.le_refl _) (Nat.le_refl _) ((Same.below hW).mono (Nat.zero_le _) hh)) hc0 h0 h1 (fun y hy => szIns_callsL y (hc1 y hy))
  have c2 : Hid (∀ (l : Int) (W : World), Below w.heap.size w W → 0 ≤ l → l ≤ 1048576 → Calls Tryz.prog 78 #[q, .int .i64 l] W fun e w' => SzQ l (sumL HandL.sz x.hands) e ∧ Below W.heap.size W w') := fun l W hW h0 h1 =>
    szHandS_calls q x.hands W own lo hi l (Nat.le_trans hh hW.size) (hq.kept HandR.stable (Nat.le_refl _) (Nat.le_refl _) ((Same.below hW).mono (Nat.zero_le _) hh)) hd0 h0 h1 (fun y hy => szHand_calls y (hd1 y hy))
  have c3 : Hid (∀ (l : Int) (W : World), Below w.heap.size w W → 0 ≤ l → l ≤ 1048576 → Calls Tryz.prog 79 #[s, .int .i64 l] W fun e w' => SzQ l (sumL FrameL.sz x.frames) e ∧ Below W.heap.size W w') := fun l W hW h0 h1 =>
    szFrameS_calls s x.frames W own lo hi l (Nat.le_trans hh hW.size) (hs.kept FrameR.stable (Nat.le_refl _) (Nat.le_refl _) ((Same.below hW).mono (Nat.zero_le _) hh)) hf0 h0 h1 (fun y hy => szFrame_calls y (hf1 y hy))
  obtain ⟨a4, k4, rfl⟩ := ht.form
  have c4 : Hid (∀ (l : Int) (W : World), 0 ≤ l → l ≤ 1048576 → Calls Tryz.prog 80 #[.slice a4 x.lines.length k4, .int .i64 l] W fun e w' => SzQ l x.lines.length e ∧ w' = W) := fun l W h0 h1 => szLineS_calls a4 x.lines.length k4 l W hl9 h0 h1
  unfold MethL.sz
  generalize sumL InsL.sz x.code = n1 at *
  generalize sumL HandL.sz x.hands = n2 at *
  generalize sumL FrameL.sz x.frames = n3 at *
  obtain ⟨a1, k1, rfl⟩ := hp.form
  obtain ⟨a2, k2, rfl⟩ := hq.form
  obtain ⟨a3, k3, rfl⟩ := hs.form
  generalize x.lines.length = n4 at *
  generalize x.code.length = m1 at *
  generalize x.hands.length = m2 at *
  generalize x.frames.length = m3 at *
  clear hp hq hs ht hl hh hc0 hc1 hd0 hd1 hf0 hf1 hl9
  by_cases h1 : l < x.name.size
  · go_enter Tryz.func45, Tryz.ntmps45
    go_wp2
    go_ret
    exact ⟨SzQ.neg (by omega), below_1 _ _⟩
  by_cases h2 : l - x.name.size < x.sig.size
  · go_enter Tryz.func45, Tryz.ntmps45
    go_wp2
    go_ret
    exact ⟨SzQ.neg (by omega), below_1 _ _⟩
  go_enter Tryz.func45, Tryz.ntmps45
  go_wp2_with fail
  obtain ⟨W0, hW0⟩ : ∃ W : World, W = w.alloc (.cells #[.string x.name, .string x.sig, .int .i64 x.flags, .int .i64 x.stack, .int .i64 x.locals, .slice a1 m1 k1, .slice a2 m2 k2, .slice a3 m3 k3, .slice a4 n4 k4] 70) := ⟨_, rfl⟩
  rw [← hW0]
  have r0 : Hid (Rec1 w W0 [.string x.name, .string x.sig, .int .i64 x.flags, .int .i64 x.stack, .int .i64 x.locals, .slice a1 m1 k1, .slice a2 m2 k2, .slice a3 m3 k3, .slice a4 n4 k4]) := Rec1.start hW0
  clear hW0
  refine (c1.out _ _ r0.out.hb (by omega) (by omega)).mono ?_
  rintro e w1 ⟨⟨r, rfl, hr1, hr2⟩, hb1⟩
  have r1 : Hid (Rec1 w w1 [.string x.name, .string x.sig, .int .i64 x.flags, .int .i64 x.stack, .int .i64 x.locals, .slice a1 m1 k1, .slice a2 m2 k2, .slice a3 m3 k3, .slice a4 n4 k4]) := r0.out.call hb1
  have y1 := r1.out.cell 6 _ rfl
  clear hb1
  by_cases h3 : l - x.name.size - x.sig.size < n1
  · obtain rfl := hr1 h3
    go_wp2
    go_ret
    exact ⟨SzQ.neg (by omega), r1.out.hb⟩
  obtain rfl := hr2 (by omega)
  clear hr1 hr2
  go_wp2_with fail
  clear y1
  refine (c2.out _ _ r1.out.hb (by omega) (by omega)).mono ?_
  rintro e w2 ⟨⟨r, rfl, hr1, hr2⟩, hb2⟩
  have r2 : Hid (Rec1 w w2 [.string x.name, .string x.sig, .int .i64 x.flags, .int .i64 x.stack, .int .i64 x.locals, .slice a1 m1 k1, .slice a2 m2 k2, .slice a3 m3 k3, .slice a4 n4 k4]) := r1.out.call hb2
  have y2 := r2.out.cell 7 _ rfl
  clear hb2
  by_cases h4 : l - x.name.size - x.sig.size - n1 < n2
  · obtain rfl := hr1 h4
    go_wp2
    go_ret
    exact ⟨SzQ.neg (by omega), r2.out.hb⟩
  obtain rfl := hr2 (by omega)
  clear hr1 hr2
  go_wp2_with fail
  clear y2
  refine (c3.out _ _ r2.out.hb (by omega) (by omega)).mono ?_
  rintro e w3 ⟨⟨r, rfl, hr1, hr2⟩, hb3⟩
  have r3 : Hid (Rec1 w w3 [.string x.name, .string x.sig, .int .i64 x.flags, .int .i64 x.stack, .int .i64 x.locals, .slice a1 m1 k1, .slice a2 m2 k2, .slice a3 m3 k3, .slice a4 n4 k4]) := r2.out.call hb3
  have y3 := r3.out.cell 8 _ rfl
  clear hb3
  by_cases h5 : l - x.name.size - x.sig.size - n1 - n2 < n3
  · obtain rfl := hr1 h5
    go_wp2
    go_ret
    exact ⟨SzQ.neg (by omega), r3.out.hb⟩
  obtain rfl := hr2 (by omega)
  clear hr1 hr2
  go_wp2_with fail
  clear y3
  refine (c4.out _ _ (by omega) (by omega)).mono ?_
  rintro e w4 ⟨⟨r, rfl, hr1, hr2⟩, rfl⟩
  by_cases h6 : l - x.name.size - x.sig.size - n1 - n2 - n3 < n4
  · obtain rfl := hr1 h6
    go_wp2
    go_ret
    exact ⟨SzQ.neg (by omega), r3.out.hb⟩
  obtain rfl := hr2 (by omega)
  clear hr1 hr2
  go_wp2
  go_ret
  exact ⟨SzQ.pos (by omega) (by omega), r3.out.hb⟩

theorem sumL_le {α : Type} {f : α → Nat} {xs : List α} {n : Nat} (h : sumL f xs ≤ n) : xs.length ≤ n ∧ ∀ x ∈ xs, f x ≤ n := by
  unfold sumL at h
  exact ⟨by omega, fun x hx => by have := sum_mem_le f xs x hx; omega⟩
theorem MethL.small_of_sz {x : MethL} (h : x.sz ≤ 1048576) : x.small := by
  unfold MethL.sz at h
  have hc := sumL_le (f := InsL.sz) (xs := x.code) (n := 1048576) (by omega)
  have hd := sumL_le (f := HandL.sz) (xs := x.hands) (n := 1048576) (by omega)
  have hf := sumL_le (f := FrameL.sz) (xs := x.frames) (n := 1048576) (by omega)
  refine ⟨by omega, by omega, ⟨hc.1, fun y hy => ?_⟩, ⟨hd.1, fun y hy => hd.2 y hy⟩, ⟨hf.1, fun y hy => ?_⟩, by omega⟩
  · have := hc.2 y hy
    unfold InsL.sz at this
    exact ⟨by omega, by omega, by omega, by omega, by omega⟩
  · have := hf.2 y hy
    unfold FrameL.sz at this
    have h1 := sumL_le (f := ByteArray.size) (xs := y.locs) (n := 1048576) (by omega)
    have h2 := sumL_le (f := ByteArray.size) (xs := y.stk) (n := 1048576) (by omega)
    exact ⟨h1.1, h2.1, h1.2, h2.2⟩
end Go.Proofs.YthbledmeghkfpaaGreatDoor

/- A list of records that came in, opened: each element by its own opening. -/
namespace Go.Proofs.YthbledmeghkfpaaGreatDoor
set_option linter.unusedVariables false
open Go.ChangeShapes Go.WideShapes Go.ChangeAt Go.RowKit

theorem open_list {α : Type} (R : Rd α) (k : Nat) (Q : α → Prop) (hk1 : 0 < k) {H : Type} {enc : TypeId × Value → H} {W : World} {t e : TypeId} {n : Nat} {v : Value} {y : DataW H × List MemPlace}
    (ht : Tryz.prog.underlying t = some (.slice e)) (hk : Tryz.prog.cellsOf e = k)
    (hel : ∀ (n : Nat) (cs : List Value) (z : DataW H × List MemPlace), cs.length = k → DataW.trod enc Tryz.prog W 0 (fun _ => true) true n e cs = some z → (∀ p ∈ z.2, p.block < W.heap.size) → ∃ x, R false 0 W.heap.size W cs x ∧ Q x)
    (h : DataW.trod enc Tryz.prog W 0 (fun _ => true) true n t [v] = some y) (hlt : ∀ p ∈ y.2, p.block < W.heap.size) :
    ∃ xs : List α, ListAt R k false 0 W.heap.size W v xs ∧ xs.length ≤ 9223372036854775807 ∧ ∀ x ∈ xs, Q x := by
  rcases Go.Deep.open_slice ht h with ⟨hcs, hx⟩ | ⟨a, len, cap, m, n', D, Pl, hcs, _, hl, hm, hmm, hx, hall⟩
  · simp at hcs
    exact ⟨[], .inl ⟨rfl, rfl, _, _, hcs⟩, by simp, by simp⟩
  · simp at hcs
    subst hcs
    simp only [if_true] at hmm
    have hlm : len ≤ m := by omega
    rw [hk] at hall hx
    have each : ∀ i, i < len → ∃ x : α, ∃ cs : List Value, cs.length = k ∧ (∀ j u, cs[j]? = some u → W.cell? ((a.add (i * k)).add j) = some u) ∧ R false 0 W.heap.size W cs x ∧ Q x := fun i hi => by
      obtain ⟨cs, hc, htr⟩ := hall i (by omega)
      obtain ⟨_, hlen, hcell0⟩ := World.cells?_some hc
      have hcell : ∀ j u, cs[j]? = some u → W.cell? ((a.add (i * k)).add j) = some u := fun j u hu => by
        rw [hcell0 j (by have := (List.getElem?_eq_some_iff.1 hu).1; omega)]; exact hu
      obtain ⟨x, hr, hq⟩ := hel n' cs _ hlen htr (fun p hp => hlt p (by
        rw [hx]
        exact List.mem_append_right _ (List.mem_flatMap.2 ⟨i, List.mem_range.2 (by omega), hp⟩)))
      exact ⟨x, cs, hlen, hcell, hr, hq⟩
    by_cases h0 : len = 0
    · subst h0
      exact ⟨[], .inl ⟨rfl, rfl, _, _, rfl⟩, by simp, by simp⟩
    obtain ⟨b, off, spot⟩ := a
    have hspot : spot = none := by
      obtain ⟨x, cs, hlen, hcell, _⟩ := each 0 (by omega)
      have := hcell 0 cs[0] (by simp)
      simpa [Addr.add] using World.cell?_spot this
    subst hspot
    obtain ⟨f, hf⟩ : ∃ f : Nat → α, ∀ i, i < len → ∃ cs : List Value, cs.length = k ∧ (∀ j u, cs[j]? = some u → W.cell? (((⟨b, off, none⟩ : Addr).add (i * k)).add j) = some u) ∧ R false 0 W.heap.size W cs (f i) ∧ Q (f i) := by
      obtain ⟨x0, _⟩ := each 0 (by omega)
      refine ⟨fun i => if hi : i < len then (each i hi).choose else x0, fun i hi => ?_⟩
      simp only [hi, dif_pos]
      exact (each i hi).choose_spec
    have hb : b < W.heap.size := by
      obtain ⟨cs, hlen, hcell, _⟩ := hf 0 (by omega)
      have := World.block_lt_of_cell? W _ (hcell 0 cs[0] (by simp))
      simpa [Addr.add] using this
    refine ⟨(List.range len).map f, .inr ⟨b, off, cap, by simp, Nat.zero_le _, hb, (fun h => by cases h), fun j hj => ?_⟩, ?_, fun x hx => ?_⟩
    · have hj' : j < len := by simpa using hj
      obtain ⟨cs, hlen, hcell, hr, _⟩ := hf j hj'
      refine ⟨cs, hlen, fun i u hu => ?_, by simpa using hr⟩
      have := hcell i u hu
      rwa [Addr.add_mid, Addr.add_mid] at this
    · simp; unfold maxLen at hm; omega
    · obtain ⟨i, hi, rfl⟩ := List.mem_map.1 hx
      exact (hf i (List.mem_range.1 hi)).choose_spec.2.2.2
end Go.Proofs.YthbledmeghkfpaaGreatDoor
