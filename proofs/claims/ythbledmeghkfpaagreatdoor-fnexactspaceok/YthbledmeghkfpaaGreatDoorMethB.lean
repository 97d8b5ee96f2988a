/- Handlers, lines and frames of a method, by the program. -/
import Derived.Test.YthbledmeghkfpaaGreatDoorMethA
import Derived.Test.YthbledmeghkfpaaGreatDoorInsE
import Derived.Test.YthbledmeghkfpaaGreatDoorShShelf
namespace Go.Proofs.YthbledmeghkfpaaGreatDoor
set_option linter.unusedVariables false
open Go.ChangeShapes Go.WideShapes Go.ChangeAt Go.RowKit

def handB (x : HandL) (size : Int) : Bool := decide (0 ≤ x.fr) && decide (x.fr < x.to) && decide (x.to ≤ size) && wthn x.at' size && ((x.ty.toList == []) || nameOk x.ty.data.toList)

set_option maxRecDepth 1000000 in
set_option maxHeartbeats 1000000 in
theorem handlerOk_calls (x : HandL) (size : Int) (w : World) (hy : x.ty.size ≤ 1048576) :
    Calls Tryz.prog 116 #[.agg #[.int .i64 x.fr, .int .i64 x.to, .int .i64 x.at', .string x.ty], .int .i64 size] w fun e w' => e = .returned (.bool (handB x size)) ∧ Below w.heap.size w w' := by
  have nameH : Hid (∀ W, Calls Tryz.prog 33 #[.string x.ty] W fun e w' => e = .returned (.bool (nameOk x.ty.data.toList)) ∧ Below W.heap.size W w') := fun W => implName_below x.ty W (by omega)
  have wiH : Hid (∀ W, Calls Tryz.prog 144 #[.int .i64 x.at', .int .i64 size] W fun e w' => e = .returned (.bool (wthn x.at' size)) ∧ w' = W) := fun W => within_calls _ _ W
  unfold handB
  generalize nameOk x.ty.data.toList = nm at *
  generalize wthn x.at' size = wt at *
  obtain ⟨R, hR⟩ : ∃ R, (decide (0 ≤ x.fr) && decide (x.fr < x.to) && decide (x.to ≤ size) && wt && ((x.ty.toList == []) || nm)) = R := ⟨_, rfl⟩
  rw [hR]
  have hRH : Hid (_ = R) := hR
  clear hR hy
  by_cases h1 : 0 ≤ x.fr
  · by_cases h2 : x.fr < x.to
    · by_cases h3 : x.to ≤ size
      · cases wt with
        | false =>
          go_enter Tryz.func116, Tryz.ntmps116
          go_wp2_with (go_at_call 144; refine (wiH.out _).mono ?_; rintro e w2 ⟨rfl, rfl⟩)
          go_ret
          exact ⟨by rw [← hRH.out]; simp, below_1 _ _⟩
        | true =>
          cases h4 : (x.ty.toList == [])
          · go_enter Tryz.func116, Tryz.ntmps116
            go_wp2_with (first | (go_at_call 144; refine (wiH.out _).mono ?_; rintro e w2 ⟨rfl, rfl⟩) | (go_at_call 33; refine (nameH.out _).mono ?_; rintro e w3 ⟨rfl, hb3⟩))
            go_ret
            exact ⟨by rw [← hRH.out]; simp [h1, h2, h3, h4], below_on2 (below_1 _ _) hb3⟩
          · go_enter Tryz.func116, Tryz.ntmps116
            go_wp2_with (first | (go_at_call 144; refine (wiH.out _).mono ?_; rintro e w2 ⟨rfl, rfl⟩))
            go_ret
            exact ⟨by rw [← hRH.out]; simp [h1, h2, h3, h4], below_1 _ _⟩
      · go_enter Tryz.func116, Tryz.ntmps116
        go_wp2
        go_ret
        exact ⟨by rw [← hRH.out, decide_eq_false (show ¬ x.to ≤ size by omega)]; simp, below_1 _ _⟩
    · go_enter Tryz.func116, Tryz.ntmps116
      go_wp2
      go_ret
      exact ⟨by rw [← hRH.out, decide_eq_false (show ¬ x.fr < x.to by omega)]; simp, below_1 _ _⟩
  · go_enter Tryz.func116, Tryz.ntmps116
    go_wp2
    go_ret
    exact ⟨by rw [← hRH.out, decide_eq_false (show ¬ 0 ≤ x.fr by omega)]; simp, below_1 _ _⟩

def linesB (size : Int) : Int → List LineL → Bool
  | _, [] => true
  | last, x :: r => !(decide (x.at' ≤ last) || decide (size ≤ x.at') || !betw x.n 1 1000000) && linesB size x.at' r

set_option maxRecDepth 1000000 in
set_option maxHeartbeats 1000000 in
theorem linesOk_calls (N S : ByteArray) (f k l : Int) (a1 : Option Addr) (n1 c1 : Nat) (a2 : Option Addr) (n2 c2 : Nat) (a3 : Option Addr) (n3 c3 : Nat) (a4 : Option Addr) (n4 c4 : Nat) (w : World) (xs : List LineL) (lo hi : Nat) (hh : hi ≤ w.heap.size) (ht : ListAt LineR 2 true lo hi w (.slice a4 n4 c4) xs) (hn : xs.length = n4) (hx : n4 ≤ 1048576) (hn1 : n1 ≤ 1048576) :
    Calls Tryz.prog 118 #[methV N S f k l a1 n1 c1 a2 n2 c2 a3 n3 c3 a4 n4 c4] w fun e w' => e = .returned (.bool (linesB n1 (-1) xs)) ∧ Below w.heap.size w w' := by
  have htH : Hid (∀ W, Below w.heap.size w W → ListAt LineR 2 true lo hi W (.slice a4 n4 c4) xs) := fun W hW => ht.kept LineR.stable (Nat.le_refl _) (Nat.le_refl _) ((Same.below hW).mono (Nat.zero_le _) hh)
  have hldH : Hid ((Tryz.prog.info? 137).map (·.size) = some 2) := by show (Tryz.prog.info? 137).map (·.size) = some 2; kernel_rfl
  have hnH : Hid (xs.length = n4) := hn
  have btH : Hid (∀ n W, Calls Tryz.prog 93 #[.int .i64 n, .int .i64 1, .int .i64 1000000] W fun e w' => e = .returned (.bool (betw n 1 1000000)) ∧ w' = W) := fun n W => between_calls _ _ _ W
  obtain ⟨R, hR⟩ : ∃ R, linesB n1 (-1) xs = R := ⟨_, rfl⟩
  rw [hR]
  have hRH : Hid (linesB n1 (-1) xs = R) := hR
  clear hR ht hn hh
  go_enter Tryz.func118, Tryz.ntmps118
  go_wp2
  go_loopw [3, 9] (fun q i wr => ∃ (m : Nat) (z : Int), m ≤ n4 ∧ q = .int .i64 z ∧ i = .int .i64 m ∧ Hid (linesB n1 z (xs.drop m) = R) ∧ Hid (Rec1 w wr [.string N, .string S, .int .i64 f, .int .i64 k, .int .i64 l, .slice a1 n1 c1, .slice a2 n2 c2, .slice a3 n3 c3, .slice a4 n4 c4])) (fun _ i _ => n4 - (intOf i).toNat)
  case atStart => exact ⟨0, -1, Nat.zero_le _, rfl, rfl, hRH.out, Rec1.start rfl⟩
  case round =>
    obtain ⟨m, z, hm, rfl, rfl, hz, hB⟩ := hrel
    by_cases hlt : m < n4
    · have hltx : m < xs.length := by rw [hnH.out]; exact hlt
      obtain ⟨b, off, row, rfl, hbb, hrl, hrr, hrx⟩ := (htH.out wr hB.out.hb).at m hltx
      have hlt' : (m : Int) < (n4 : Int) := by omega
      have hdr : Hid (xs.drop m = xs[m] :: xs.drop (m + 1)) := (List.drop_eq_getElem_cons hltx)
      obtain ⟨x, hxm⟩ : ∃ x, x = xs[m] := ⟨_, rfl⟩
      rw [← hxm] at hrx hdr
      obtain rfl : row = [.int .i64 x.at', .int .i64 x.n] := hrx
      have hrrH : Hid (wr.rangeAt b (off + m * 2) [.int .i64 x.at', .int .i64 x.n]) := hrr
      have y5 := hB.out.cell 5 _ rfl
      have hstep : Hid (R = (!(decide (x.at' ≤ z) || decide (n1 ≤ x.at') || !betw x.n 1 1000000) && linesB n1 x.at' (xs.drop (m + 1)))) := by
        have := hz.out
        rw [hdr.out] at this
        exact this.symm
      have hBn : Hid (Rec1 w (wr.alloc (.cells #[.int .i64 x.at', .int .i64 x.n] 137)) _) := hB.out.call (below_1 _ _)
      have y5' : (wr.alloc (.cells #[.int .i64 x.at', .int .i64 x.n] 137)).cell? ⟨w.heap.size, 5, none⟩ = some (.slice a1 n1 c1) := hBn.out.cell 5 _ rfl
      clear hrr hrl hxm y5
      obtain ⟨bt, hbt⟩ : ∃ bt, betw x.n 1 1000000 = bt := ⟨_, rfl⟩
      have hbtH : Hid (∀ W, Calls Tryz.prog 93 #[.int .i64 x.n, .int .i64 1, .int .i64 1000000] W fun e w' => e = .returned (.bool bt) ∧ w' = W) := fun W => by rw [← hbt]; exact btH.out x.n W
      rw [hbt] at hstep
      clear hbt
      by_cases h1 : x.at' ≤ z
      · go_wp2_with (first | (refine wpList_load_mid rfl 137 _ rfl b (off + m * 2) (by first | rfl | (simp; done)) _ _ hrrH.out Tryz.underlying137 rfl hldH.out ?_) | (go_at_call 93; refine (hbtH.out _).mono ?_; rintro e w2 ⟨rfl, rfl⟩))
        go_ret
        exact ⟨by rw [hstep.out]; simp [h1], hBn.out.hb⟩
      · by_cases h2 : (n1 : Int) ≤ x.at'
        · go_wp2_with (first | (refine wpList_load_mid rfl 137 _ rfl b (off + m * 2) (by first | rfl | (simp; done)) _ _ hrrH.out Tryz.underlying137 rfl hldH.out ?_) | (go_at_call 93; refine (hbtH.out _).mono ?_; rintro e w2 ⟨rfl, rfl⟩))
          go_ret
          exact ⟨by rw [hstep.out]; simp [h2], hBn.out.hb⟩
        · cases bt with
          | false =>
            go_wp2_with (first | (refine wpList_load_mid rfl 137 _ rfl b (off + m * 2) (by first | rfl | (simp; done)) _ _ hrrH.out Tryz.underlying137 rfl hldH.out ?_) | (go_at_call 93; refine (hbtH.out _).mono ?_; rintro e w2 ⟨rfl, rfl⟩))
            go_ret
            exact ⟨by rw [hstep.out]; simp, hBn.out.hb⟩
          | true =>
            go_wp2_with (first | (refine wpList_load_mid rfl 137 _ rfl b (off + m * 2) (by first | rfl | (simp; done)) _ _ hrrH.out Tryz.underlying137 rfl hldH.out ?_) | (go_at_call 93; refine (hbtH.out _).mono ?_; rintro e w2 ⟨rfl, rfl⟩))
            go_roundw
            case rel => exact ⟨m + 1, _, by omega, rfl, by go_num, (show _ = R by rw [hstep.out]; simp [h1, h2]), hBn⟩
            case measure => simp [intOf]; omega
    · have hend := hz.out
      rw [List.drop_eq_nil_of_le (by have := hnH.out; omega)] at hend
      have hR : R = true := hend.symm
      subst hR
      clear hend
      go_wp2
      go_ret
      exact ⟨rfl, hB.out.hb⟩
end Go.Proofs.YthbledmeghkfpaaGreatDoor

/- Frames of a method, by the program. -/
namespace Go.Proofs.YthbledmeghkfpaaGreatDoor
set_option linter.unusedVariables false
open Go.ChangeShapes Go.WideShapes Go.ChangeAt Go.RowKit

/-- What the walks lean on: the library's variables, and a world that is shaped. -/
def EnvOk (w : World) : Prop := Sh.Env w ∧ w.ShapedOpen Tryz.prog
theorem EnvOk.kept {w w' : World} (h : EnvOk w) (hb : Below w.heap.size w w') : EnvOk w' := ⟨h.1.kept hb, shaped_below h.2 hb⟩
def shapesB (ss : List ByteArray) : Bool := ss.all fun s => Sh.shapeL s.data.toList

set_option maxRecDepth 1000000 in
set_option maxHeartbeats 1000000 in
theorem allStr_calls (v : Value) (xs : List ByteArray) (w : World) (lo hi : Nat) (hh : hi ≤ w.heap.size) (ht : ListAt StrR 1 true lo hi w v xs) (hn : xs.length ≤ 1048576) (hs : ∀ s ∈ xs, s.size ≤ 1048576) (he : EnvOk w) :
    Calls Tryz.prog 60 #[v, .func (.func 145) #[] #[]] w fun e w' => e = .returned (.bool (shapesB xs)) ∧ Below w.heap.size w w' := by
  obtain ⟨a, c, rfl⟩ := ht.form
  have htH : Hid (∀ W, Below w.heap.size w W → ListAt StrR 1 true lo hi W (.slice a xs.length c) xs) := fun W hW => ht.kept StrR.stable (Nat.le_refl _) (Nat.le_refl _) ((Same.below hW).mono (Nat.zero_le _) hh)
  have shH : Hid (∀ s ∈ xs, ∀ W, Below w.heap.size w W → Calls Tryz.prog 145 #[.string s] W fun e w' => e = .returned (.bool (Sh.shapeL s.data.toList)) ∧ Below W.heap.size W w') := fun s hx W hW => Sh.implShape_calls s W (hs s hx) (he.kept hW).1
  obtain ⟨R, hR⟩ : ∃ R, shapesB xs = R := ⟨_, rfl⟩
  rw [hR]
  have hRH : Hid (shapesB xs = R) := hR
  clear hR ht hh hs he
  go_enter Tryz.func60, Tryz.ntmps60
  go_wp2
  go_loopw [9] (fun i wr => ∃ m : Nat, m ≤ xs.length ∧ i = .int .i64 m ∧ Hid (shapesB (xs.drop m) = R) ∧ Hid (Below w.heap.size w wr)) (fun i _ => xs.length - (intOf i).toNat)
  case atStart => exact ⟨0, Nat.zero_le _, rfl, hRH.out, Below.refl _ _⟩
  case round =>
    obtain ⟨m, hm, rfl, hz, hB⟩ := hrel
    by_cases hlt : m < xs.length
    · obtain ⟨b, off, row, rfl, hbb, hrl, hrr, hrx⟩ := (htH.out wr hB.out).at m hlt
      have hrow : row = [.string xs[m]] := hrx
      have hcell : wr.cell? ⟨b, off + m, none⟩ = some (.string xs[m]) := by simpa using hrr 0 (.string xs[m]) (by rw [hrow]; rfl)
      have hlt' : (m : Int) < (xs.length : Int) := by omega
      have hstep : Hid (R = (Sh.shapeL xs[m].data.toList && shapesB (xs.drop (m + 1)))) := by
        have := hz.out
        rw [List.drop_eq_getElem_cons hlt] at this
        exact this.symm
      have hc : Hid (Calls Tryz.prog 145 #[.string xs[m]] wr fun e w' => e = .returned (.bool (Sh.shapeL xs[m].data.toList)) ∧ Below wr.heap.size wr w') := shH.out xs[m] (List.getElem_mem hlt) wr hB.out
      obtain ⟨s, hs⟩ : ∃ s, s = xs[m] := ⟨_, rfl⟩
      rw [← hs] at hcell hstep hc
      clear hrr hrl hrx hrow hs
      obtain ⟨sb, hsb⟩ : ∃ sb, Sh.shapeL s.data.toList = sb := ⟨_, rfl⟩
      rw [hsb] at hstep hc
      clear hsb
      cases sb with
      | false =>
        go_wp2_with (go_at_call 145; refine hc.out.mono ?_; rintro e w2 ⟨rfl, hb2⟩)
        go_ret
        exact ⟨by rw [hstep.out]; rfl, below_on2 hB.out hb2⟩
      | true =>
        go_wp2_with (go_at_call 145; refine hc.out.mono ?_; rintro e w2 ⟨rfl, hb2⟩)
        go_roundw
        case rel => exact ⟨m + 1, by omega, by go_num, (show _ = R by rw [hstep.out]; rfl), below_on2 hB.out hb2⟩
        case measure => simp [intOf]; omega
    · have hend := hz.out
      rw [List.drop_eq_nil_of_le (by omega)] at hend
      have hR : R = true := hend.symm
      subst hR
      clear hend
      go_wp2
      go_ret
      exact ⟨rfl, hB.out⟩

def frameB (size locals stack last : Int) (x : FrameL) : Bool :=
  !(decide (x.at' ≤ last) || decide (size ≤ x.at') || ((x.locs.length : Int) != locals) || decide (stack < (x.stk.length : Int)) || !shapesB x.locs || !shapesB x.stk)
def framesB (size locals stack : Int) : Int → List FrameL → Bool
  | _, [] => true
  | last, x :: r => frameB size locals stack last x && framesB size locals stack x.at' r

set_option maxRecDepth 1000000 in
set_option maxHeartbeats 4000000 in
theorem framesOk_calls (N S : ByteArray) (f k l : Int) (a1 : Option Addr) (n1 c1 : Nat) (a2 : Option Addr) (n2 c2 : Nat) (a3 : Option Addr) (n3 c3 : Nat) (a4 : Option Addr) (n4 c4 : Nat) (w : World) (xs : List FrameL) (lo hi : Nat) (hh : hi ≤ w.heap.size) (ht : ListAt FrameR 3 true lo hi w (.slice a3 n3 c3) xs) (hn : xs.length = n3) (hx : n3 ≤ 1048576) (hn1 : n1 ≤ 1048576) (hy : ∀ y ∈ xs, y.small) (he : EnvOk w) :
    Calls Tryz.prog 117 #[methV N S f k l a1 n1 c1 a2 n2 c2 a3 n3 c3 a4 n4 c4] w fun e w' => e = .returned (.bool (framesB n1 l k (-1) xs)) ∧ Below w.heap.size w w' := by
  have htH : Hid (∀ W, Below w.heap.size w W → ListAt FrameR 3 true lo hi W (.slice a3 n3 c3) xs) := fun W hW => ht.kept FrameR.stable (Nat.le_refl _) (Nat.le_refl _) ((Same.below hW).mono (Nat.zero_le _) hh)
  have hldH : Hid ((Tryz.prog.info? 134).map (·.size) = some 3) := by show (Tryz.prog.info? 134).map (·.size) = some 3; kernel_rfl
  have hnH : Hid (xs.length = n3) := hn
  have hyH : Hid (∀ y ∈ xs, y.small) := hy
  have hhH : Hid (hi ≤ w.heap.size) := hh
  have heH : Hid (∀ W, Below w.heap.size w W → EnvOk W) := fun W hW => he.kept hW
  obtain ⟨R, hR⟩ : ∃ R, framesB n1 l k (-1) xs = R := ⟨_, rfl⟩
  rw [hR]
  have hRH : Hid (framesB n1 l k (-1) xs = R) := hR
  clear hR ht hn hh hy he
  go_enter Tryz.func117, Tryz.ntmps117
  go_wp2
  go_loopw [3, 9] (fun q i wr => ∃ (m : Nat) (z : Int), m ≤ n3 ∧ q = .int .i64 z ∧ i = .int .i64 m ∧ Hid (framesB n1 l k z (xs.drop m) = R) ∧ Hid (Rec1 w wr [.string N, .string S, .int .i64 f, .int .i64 k, .int .i64 l, .slice a1 n1 c1, .slice a2 n2 c2, .slice a3 n3 c3, .slice a4 n4 c4])) (fun _ i _ => n3 - (intOf i).toNat)
  case atStart => exact ⟨0, -1, Nat.zero_le _, rfl, rfl, hRH.out, Rec1.start rfl⟩
  case round =>
    obtain ⟨m, z, hm, rfl, rfl, hz, hB⟩ := hrel
    by_cases hlt : m < n3
    · have hltx : m < xs.length := by rw [hnH.out]; exact hlt
      obtain ⟨b, off, row, rfl, hbb, hrl, hrr, hrx⟩ := (htH.out wr hB.out.hb).at m hltx
      have hlt' : (m : Int) < (n3 : Int) := by omega
      have hdr : Hid (xs.drop m = xs[m] :: xs.drop (m + 1)) := (List.drop_eq_getElem_cons hltx)
      have hsm := hyH.out xs[m] (List.getElem_mem hltx)
      obtain ⟨x, hxm⟩ : ∃ x, x = xs[m] := ⟨_, rfl⟩
      rw [← hxm] at hrx hdr hsm
      obtain ⟨p, q, rfl, hp, hq⟩ := hrx
      have cp : Hid (∀ W, Below wr.heap.size wr W → Calls Tryz.prog 60 #[p, .func (.func 145) #[] #[]] W fun e w' => e = .returned (.bool (shapesB x.locs)) ∧ Below W.heap.size W w') := fun W hW =>
        allStr_calls p x.locs W lo hi (by have := hhH.out; have := hB.out.hb.size; have := hW.size; omega) (hp.kept StrR.stable (Nat.le_refl _) (Nat.le_refl _) ((Same.below hW).mono (Nat.zero_le _) (by have := hhH.out; have := hB.out.hb.size; omega))) hsm.1 hsm.2.2.1 (heH.out W (below_on2 hB.out.hb hW))
      have cq : Hid (∀ W, Below wr.heap.size wr W → Calls Tryz.prog 60 #[q, .func (.func 145) #[] #[]] W fun e w' => e = .returned (.bool (shapesB x.stk)) ∧ Below W.heap.size W w') := fun W hW =>
        allStr_calls q x.stk W lo hi (by have := hhH.out; have := hB.out.hb.size; have := hW.size; omega) (hq.kept StrR.stable (Nat.le_refl _) (Nat.le_refl _) ((Same.below hW).mono (Nat.zero_le _) (by have := hhH.out; have := hB.out.hb.size; omega))) hsm.2.1 hsm.2.2.2 (heH.out W (below_on2 hB.out.hb hW))
      obtain ⟨p1, p2, rfl⟩ := hp.form
      obtain ⟨q1, q2, rfl⟩ := hq.form
      have hs1 : x.locs.length ≤ 1048576 := hsm.1
      have hs2 : x.stk.length ≤ 1048576 := hsm.2.1
      have hstep : Hid (R = (frameB n1 l k z x && framesB n1 l k x.at' (xs.drop (m + 1)))) := by
        have := hz.out
        rw [hdr.out] at this
        exact this.symm
      unfold frameB at hstep
      generalize shapesB x.locs = s1 at *
      generalize shapesB x.stk = s2 at *
      generalize x.locs.length = m1 at *
      generalize x.stk.length = m2 at *
      generalize x.at' = xa at *
      have hrrH : Hid (wr.rangeAt b (off + m * 3) [.int .i64 xa, .slice p1 m1 p2, .slice q1 m2 q2]) := hrr
      have hBn : Hid (Rec1 w (wr.alloc (.cells #[.int .i64 xa, .slice p1 m1 p2, .slice q1 m2 q2] 134)) _) := hB.out.call (below_1 _ _)
      have y5 : (wr.alloc (.cells #[.int .i64 xa, .slice p1 m1 p2, .slice q1 m2 q2] 134)).cell? ⟨w.heap.size, 5, none⟩ = some (.slice a1 n1 c1) := hBn.out.cell 5 _ rfl
      have y4 : (wr.alloc (.cells #[.int .i64 xa, .slice p1 m1 p2, .slice q1 m2 q2] 134)).cell? ⟨w.heap.size, 4, none⟩ = some (.int .i64 l) := hBn.out.cell 4 _ rfl
      have y3 : (wr.alloc (.cells #[.int .i64 xa, .slice p1 m1 p2, .slice q1 m2 q2] 134)).cell? ⟨w.heap.size, 3, none⟩ = some (.int .i64 k) := hBn.out.cell 3 _ rfl
      clear hrr hrl hxm hp hq hsm
      by_cases h1 : xa ≤ z
      · go_wp2_with (first | (refine wpList_load_mid rfl 134 _ rfl b (off + m * 3) (by first | rfl | (simp; done)) _ _ hrrH.out Tryz.underlying134 rfl hldH.out ?_))
        go_ret
        exact ⟨by rw [hstep.out]; simp [h1], hBn.out.hb⟩
      by_cases h2 : (n1 : Int) ≤ xa
      · go_wp2_with (first | (refine wpList_load_mid rfl 134 _ rfl b (off + m * 3) (by first | rfl | (simp; done)) _ _ hrrH.out Tryz.underlying134 rfl hldH.out ?_))
        go_ret
        exact ⟨by rw [hstep.out]; simp [h2], hBn.out.hb⟩
      rcases Bool.eq_false_or_eq_true ((m1 : Int) != l) with h3 | h3
      · go_wp2_with (first | (refine wpList_load_mid rfl 134 _ rfl b (off + m * 3) (by first | rfl | (simp; done)) _ _ hrrH.out Tryz.underlying134 rfl hldH.out ?_))
        go_ret
        exact ⟨by rw [hstep.out, h3]; simp, hBn.out.hb⟩
      by_cases h4 : k < (m2 : Int)
      · go_wp2_with (first | (refine wpList_load_mid rfl 134 _ rfl b (off + m * 3) (by first | rfl | (simp; done)) _ _ hrrH.out Tryz.underlying134 rfl hldH.out ?_))
        go_ret
        exact ⟨by rw [hstep.out, decide_eq_true h4]; simp, hBn.out.hb⟩
      cases s1 with
      | false =>
        go_wp2_with (first | (refine wpList_load_mid rfl 134 _ rfl b (off + m * 3) (by first | rfl | (simp; done)) _ _ hrrH.out Tryz.underlying134 rfl hldH.out ?_) | (go_at_call 60; refine (cp.out _ (below_1 _ _)).mono ?_; rintro e w2 ⟨rfl, hb2⟩))
        go_ret
        exact ⟨by rw [hstep.out]; simp, below_on2 hBn.out.hb hb2⟩
      | true =>
        have hst : Hid (∀ W, Below (wr.heap.size + 1) (wr.alloc (.cells #[.int .i64 xa, .slice p1 m1 p2, .slice q1 m2 q2] 134)) W → W.cell? ⟨wr.heap.size, 2, none⟩ = some (.slice q1 m2 q2) ∧ W.cell? ⟨wr.heap.size, 0, none⟩ = some (.int .i64 xa)) := fun W hW => by
          constructor
          · rw [hW.cell (p := ⟨wr.heap.size, 2, none⟩) (Nat.lt_succ_self _)]; simp
          · rw [hW.cell (p := ⟨wr.heap.size, 0, none⟩) (Nat.lt_succ_self _)]; simp
        go_wp2_with (first | (refine wpList_load_mid rfl 134 _ rfl b (off + m * 3) (by first | rfl | (simp; done)) _ _ hrrH.out Tryz.underlying134 rfl hldH.out ?_) | fail)
        refine (cp.out _ (below_1 _ _)).mono ?_
        rintro e w2 ⟨rfl, hb2⟩
        have hb2' : Below (wr.heap.size + 1) (wr.alloc (.cells #[.int .i64 xa, .slice p1 m1 p2, .slice q1 m2 q2] 134)) w2 := by simpa using hb2
        obtain ⟨z2, z0⟩ := hst.out w2 hb2'
        have r2 : Hid (Rec1 w w2 _) := hBn.out.call hb2
        have hbw : Hid (Below wr.heap.size wr w2) := below_on2 (below_1 _ _) hb2
        clear hb2 hb2'
        cases s2 with
        | false =>
          go_wp2_with (go_at_call 60; refine (cq.out _ hbw.out).mono ?_; rintro e w3 ⟨rfl, hb3⟩)
          go_ret
          exact ⟨by rw [hstep.out]; simp, below_on2 r2.out.hb hb3⟩
        | true =>
          go_wp2_with fail
          refine (cq.out _ hbw.out).mono ?_
          rintro e w3 ⟨rfl, hb3⟩
          have z0' : w3.cell? ⟨wr.heap.size, 0, none⟩ = some (.int .i64 xa) := by
            rw [hb3.cell (p := ⟨wr.heap.size, 0, none⟩) (World.block_lt_of_cell? w2 ⟨wr.heap.size, 0, none⟩ z0)]; exact z0
          have r3 : Hid (Rec1 w w3 _) := r2.out.call hb3
          clear hb3 z2 z0
          go_wp2
          go_roundw
          case rel => exact ⟨m + 1, _, by omega, rfl, by go_num, (show _ = R by rw [hstep.out, h3, decide_eq_false (show ¬ xa ≤ z by omega), decide_eq_false (show ¬ (n1 : Int) ≤ xa by omega), decide_eq_false (show ¬ k < (m2 : Int) by omega)]; simp), r3⟩
          case measure => simp [intOf]; omega
    · have hend := hz.out
      rw [List.drop_eq_nil_of_le (by have := hnH.out; omega)] at hend
      have hR : R = true := hend.symm
      subst hR
      clear hend
      go_wp2
      go_ret
      exact ⟨rfl, hB.out.hb⟩
end Go.Proofs.YthbledmeghkfpaaGreatDoor
