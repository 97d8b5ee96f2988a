import Derived.Test.YtjjccimeikkogaaGreatDoorMethA
import Derived.Test.YtjjccimeikkogaaGreatDoorJoin0
set_option maxRecDepth 1000000
set_option maxHeartbeats 4000000
namespace Go.Proofs.YtjjccimeikkogaaGreatDoor
set_option linter.unusedVariables false
open Go.ChangeShapes Go.WideShapes Go.ChangeAt Go.RowKit
def InsL.wide (x : InsL) : Prop := -9223372036854775808 ≤ x.a ∧ x.a < 9223372036854775808
def insL (size locals : Int) (x : InsL) : Bool := insB x.o x.k x.a x.b x.T x.C x.N x.Y x.zs size locals
def codeB (size locals stack : Int) (xs : List InsL) (hs : List HandL) (fs : List FrameL) (ls : List LineL) : Bool :=
 !(decide ((400 : Int) < xs.length) || decide ((20 : Int) < hs.length) || decide ((400 : Int) < fs.length) || decide ((400 : Int) < ls.length)) && (xs.all (insL size locals) && (hs.all (fun x => handB x size) && (framesB size locals stack (-1) fs && linesB size (-1) ls)))
theorem codeOk_calls (N S : ByteArray) (f k l : Int) (a1 : Option Addr) (n1 c1 : Nat) (a2 : Option Addr) (n2 c2 : Nat) (a3 : Option Addr) (n3 c3 : Nat) (a4 : Option Addr) (n4 c4 : Nat) (w : World) (xs : List InsL) (hs : List HandL) (fs : List FrameL) (ls : List LineL) (lo hi : Nat) (hh : hi ≤ w.heap.size)
  (t1 : ListAt InsR 9 true lo hi w (.slice a1 n1 c1) xs) (t2 : ListAt HandR 4 true lo hi w (.slice a2 n2 c2) hs) (t3 : ListAt FrameR 3 true lo hi w (.slice a3 n3 c3) fs) (t4 : ListAt LineR 2 true lo hi w (.slice a4 n4 c4) ls)
  (e1 : xs.length = n1) (e2 : hs.length = n2) (e3 : fs.length = n3) (e4 : ls.length = n4) (h1 : n1 ≤ 1048576) (h2 : n2 ≤ 1048576) (h3 : n3 ≤ 1048576) (h4 : n4 ≤ 1048576)
  (y1 : ∀ y ∈ xs, y.small ∧ y.wide) (y2 : ∀ y ∈ hs, y.small) (y3 : ∀ y ∈ fs, y.small) (he : EnvOk w) :
  Calls Tryz.prog 184 #[methV N S f k l a1 n1 c1 a2 n2 c2 a3 n3 c3 a4 n4 c4] w fun e w' => e = .returned (.bool (codeB n1 l k xs hs fs ls)) ∧ Below w.heap.size w w' := by
 have fH : Hid (∀ W, Below w.heap.size w W → Calls Tryz.prog 197 #[methV N S f k l a1 n1 c1 a2 n2 c2 a3 n3 c3 a4 n4 c4] W fun e w' => e = .returned (.bool (framesB n1 l k (-1) fs)) ∧ Below W.heap.size W w') := fun W hW =>
  framesOk_calls N S f k l a1 n1 c1 a2 n2 c2 a3 n3 c3 a4 n4 c4 W fs lo hi (Nat.le_trans hh hW.size) (t3.kept FrameR.stable (Nat.le_refl _) (Nat.le_refl _) ((Same.below hW).mono (Nat.zero_le _) hh)) e3 h3 h1 y3 (he.kept hW)
 have lH : Hid (∀ W, Below w.heap.size w W → Calls Tryz.prog 198 #[methV N S f k l a1 n1 c1 a2 n2 c2 a3 n3 c3 a4 n4 c4] W fun e w' => e = .returned (.bool (linesB n1 (-1) ls)) ∧ Below W.heap.size W w') := fun W hW =>
  linesOk_calls N S f k l a1 n1 c1 a2 n2 c2 a3 n3 c3 a4 n4 c4 W ls lo hi (Nat.le_trans hh hW.size) (t4.kept LineR.stable (Nat.le_refl _) (Nat.le_refl _) ((Same.below hW).mono (Nat.zero_le _) hh)) e4 h4 h1
 have iH : Hid (∀ x ∈ xs, ∀ (W : World) (v : Value), Below w.heap.size w W → ListAt IntR 1 true lo hi W v x.zs → Calls Tryz.prog 195 #[insV x.o x.k x.a x.b x.T x.C x.N x.Y v, .int .i64 n1, .int .i64 l] W fun e w' => e = .returned (.bool (insL n1 l x)) ∧ Below W.heap.size W w') := fun x hx W v hW ht => by
  obtain ⟨⟨hT, hC, hN, hY, hz⟩, hw⟩ := y1 x hx
  exact implIns_calls x.o x.k x.a x.b n1 l x.T x.C x.N x.Y v x.zs W (ht.tab (Nat.le_trans hh hW.size)) hz hw.1 hw.2 hT hC hN hY (he.kept hW).2
 have hH : Hid (∀ x ∈ hs, ∀ (W : World), Calls Tryz.prog 196 #[.agg #[.int .i64 x.fr, .int .i64 x.to, .int .i64 x.at', .string x.ty], .int .i64 n1] W fun e w' => e = .returned (.bool (handB x n1)) ∧ Below W.heap.size W w') := fun x hx W => handlerOk_calls x n1 W (y2 x hx)
 have t1H : Hid (∀ W, Below w.heap.size w W → ListAt InsR 9 true lo hi W (.slice a1 n1 c1) xs) := fun W hW => t1.kept InsR.stable (Nat.le_refl _) (Nat.le_refl _) ((Same.below hW).mono (Nat.zero_le _) hh)
 have t2H : Hid (∀ W, Below w.heap.size w W → ListAt HandR 4 true lo hi W (.slice a2 n2 c2) hs) := fun W hW => t2.kept HandR.stable (Nat.le_refl _) (Nat.le_refl _) ((Same.below hW).mono (Nat.zero_le _) hh)
 have hhH : Hid (hi ≤ w.heap.size) := hh
 have i94 : Hid ((Tryz.prog.info? 110).map (·.size) = some 9) := by show (Tryz.prog.info? 110).map (·.size) = some 9; kernel_rfl
 have i95 : Hid ((Tryz.prog.info? 124).map (·.size) = some 4) := by show (Tryz.prog.info? 124).map (·.size) = some 4; kernel_rfl
 obtain ⟨R, hR⟩ : ∃ R, codeB n1 l k xs hs fs ls = R := ⟨_, rfl⟩
 rw [hR]
 unfold codeB at hR
 rw [e1, e2, e3, e4] at hR
 have e1H : Hid (xs.length = n1) := e1
 have e2H : Hid (hs.length = n2) := e2
 generalize framesB n1 l k (-1) fs = fb at *
 generalize linesB n1 (-1) ls = lb at *
 have hRH : Hid (_ = R) := hR
 clear hR t1 t2 t3 t4 e1 e2 e3 e4 y1 y2 y3 he hh
 by_cases g1 : (400 : Int) < n1
 ·go_enter Tryz.func184, Tryz.ntmps184
  go_wp2
  go_ret
  exact ⟨by rw [← hRH.out, decide_eq_true g1]; simp, below_1 _ _⟩
 by_cases g2 : (20 : Int) < n2
 ·go_enter Tryz.func184, Tryz.ntmps184
  go_wp2
  go_ret
  exact ⟨by rw [← hRH.out, decide_eq_true g2]; simp, below_1 _ _⟩
 by_cases g3 : (400 : Int) < n3
 ·go_enter Tryz.func184, Tryz.ntmps184
  go_wp2
  go_ret
  exact ⟨by rw [← hRH.out, decide_eq_true g3]; simp, below_1 _ _⟩
 by_cases g4 : (400 : Int) < n4
 ·go_enter Tryz.func184, Tryz.ntmps184
  go_wp2
  go_ret
  exact ⟨by rw [← hRH.out, decide_eq_true g4]; simp, below_1 _ _⟩
 have hR1 : Hid ((xs.all (insL n1 l) && (hs.all (fun x => handB x n1) && (fb && lb))) = R) := by
  have := hRH.out
  rw [decide_eq_false g1, decide_eq_false g2, decide_eq_false g3, decide_eq_false g4] at this
  show _ = R
  simpa using this
 clear hRH
 go_enter Tryz.func184, Tryz.ntmps184
 go_wp2
 go_loopw [36] (fun i wr => ∃ m : Nat, m ≤ n1 ∧ i = .int .i64 m ∧ Hid (((xs.drop m).all (insL n1 l) && (hs.all (fun x => handB x n1) && (fb && lb))) = R) ∧ Hid (Rec1 w wr [.string N, .string S, .int .i64 f, .int .i64 k, .int .i64 l, .slice a1 n1 c1, .slice a2 n2 c2, .slice a3 n3 c3, .slice a4 n4 c4])) (fun i _ => n1 - (intOf i).toNat)
 case atStart => exact ⟨0, Nat.zero_le _, rfl, hR1.out, Rec1.start rfl⟩
 case round =>
  obtain ⟨m, hm, rfl, hz, hB⟩ := hrel
  by_cases hlt : m < n1
  ·have hltx : m < xs.length := by rw [e1H.out]; exact hlt
   obtain ⟨b, off, row, rfl, hbb, hrl, hrr, hrx⟩ := (t1H.out wr hB.out.hb).at m hltx
   have hlt' : (m : Int) < (n1 : Int) := by omega
   have hmem := List.getElem_mem hltx
   have hdr := List.drop_eq_getElem_cons hltx
   obtain ⟨x, hxm⟩ : ∃ x, x = xs[m] := ⟨_, rfl⟩
   rw [← hxm] at hrx hdr hmem
   obtain ⟨v, rfl, hv⟩ := hrx
   have hc : Hid (∀ W, Below wr.heap.size wr W → Calls Tryz.prog 195 #[insV x.o x.k x.a x.b x.T x.C x.N x.Y v, .int .i64 n1, .int .i64 l] W fun e w' => e = .returned (.bool (insL n1 l x)) ∧ Below W.heap.size W w') := fun W hW =>
    iH.out x hmem W v (below_on2 hB.out.hb hW) (hv.kept IntR.stable (Nat.le_refl _) (Nat.le_refl _) ((Same.below hW).mono (Nat.zero_le _) (by have := hhH.out; have := hB.out.hb.size; omega)))
   have hstep : Hid (R = ((insL n1 l x && (xs.drop (m + 1)).all (insL n1 l)) && (hs.all (fun x => handB x n1) && (fb && lb)))) := by
    have := hz.out
    rw [hdr] at this
    exact this.symm
   obtain ⟨v1, v2, rfl⟩ := hv.form
   generalize x.zs.length = zn at *
   obtain ⟨ib, hib⟩ : ∃ ib, insL n1 l x = ib := ⟨_, rfl⟩
   rw [hib] at hstep hc
   have hrrH : Hid (wr.rangeAt b (off + m * 9) [.int .i64 x.o, .int .i64 x.k, .int .i64 x.a, .int .i64 x.b, .string x.T, .string x.C, .string x.N, .string x.Y, .slice v1 zn v2]) := hrr
   have hBn : Hid (Rec1 w (wr.alloc (.cells #[.int .i64 x.o, .int .i64 x.k, .int .i64 x.a, .int .i64 x.b, .string x.T, .string x.C, .string x.N, .string x.Y, .slice v1 zn v2] 110)) _) := hB.out.call (below_1 _ _)
   have y4 : (wr.alloc (.cells #[.int .i64 x.o, .int .i64 x.k, .int .i64 x.a, .int .i64 x.b, .string x.T, .string x.C, .string x.N, .string x.Y, .slice v1 zn v2] 110)).cell? ⟨w.heap.size, 4, none⟩ = some (.int .i64 l) := hBn.out.cell 4 _ rfl
   clear hrr hrl hxm hv hdr hmem hib
   cases ib with
   | false =>
    go_wp2_with (first | (refine wpList_load_mid rfl 110 _ rfl b (off + m * 9) (by first | rfl | (simp; done)) _ _ hrrH.out Tryz.underlying110 rfl i94.out ?_) | (go_at_call 195; refine (hc.out _ (below_1 _ _)).mono ?_; rintro e w2 ⟨rfl, hb2⟩))
    go_ret
    exact ⟨by rw [hstep.out]; rfl, below_on2 hBn.out.hb hb2⟩
   | true =>
    go_wp2_with (first | (refine wpList_load_mid rfl 110 _ rfl b (off + m * 9) (by first | rfl | (simp; done)) _ _ hrrH.out Tryz.underlying110 rfl i94.out ?_) | (go_at_call 195; refine (hc.out _ (below_1 _ _)).mono ?_; rintro e w2 ⟨rfl, hb2⟩))
    go_roundw
    case rel => exact ⟨m + 1, by omega, by go_num, (show _ = R by rw [hstep.out]; rfl), hBn.out.call hb2⟩
    case measure => simp [intOf]; omega
  ·have hend := hz.out
   rw [List.drop_eq_nil_of_le (by have := e1H.out; omega)] at hend
   have hR2 : Hid ((hs.all (fun x => handB x n1) && (fb && lb)) = R) := hend
   have y6 := hB.out.cell 6 _ rfl
   clear hend hz
   go_wp2
   clear y6
   go_loopw [50] (fun i wr => ∃ m : Nat, m ≤ n2 ∧ i = .int .i64 m ∧ Hid (((hs.drop m).all (fun x => handB x n1) && (fb && lb)) = R) ∧ Hid (Rec1 w wr [.string N, .string S, .int .i64 f, .int .i64 k, .int .i64 l, .slice a1 n1 c1, .slice a2 n2 c2, .slice a3 n3 c3, .slice a4 n4 c4])) (fun i _ => n2 - (intOf i).toNat)
   case atStart => exact ⟨0, Nat.zero_le _, rfl, hR2.out, hB.out⟩
   case round =>
    clear hB
    obtain ⟨m, hm, rfl, hz, hB⟩ := hrel
    by_cases hlt : m < n2
    ·have hltx : m < hs.length := by rw [e2H.out]; exact hlt
     obtain ⟨b, off, row, rfl, hbb, hrl, hrr, hrx⟩ := (t2H.out _ hB.out.hb).at m hltx
     have hlt' : (m : Int) < (n2 : Int) := by omega
     have hmem := List.getElem_mem hltx
     have hdr := List.drop_eq_getElem_cons hltx
     obtain ⟨x, hxm⟩ : ∃ x, x = hs[m] := ⟨_, rfl⟩
     rw [← hxm] at hrx hdr hmem
     obtain rfl : row = [.int .i64 x.fr, .int .i64 x.to, .int .i64 x.at', .string x.ty] := hrx
     have hc := hH.out x hmem
     have hstep : Hid (R = ((handB x n1 && (hs.drop (m + 1)).all (fun x => handB x n1)) && (fb && lb))) := by
      have := hz.out
      rw [hdr] at this
      exact this.symm
     obtain ⟨ib, hib⟩ : ∃ ib, handB x n1 = ib := ⟨_, rfl⟩
     rw [hib] at hstep hc
     have hcH : Hid (∀ (W : World), Calls Tryz.prog 196 #[.agg #[.int .i64 x.fr, .int .i64 x.to, .int .i64 x.at', .string x.ty], .int .i64 n1] W fun e w' => e = .returned (.bool ib) ∧ Below W.heap.size W w') := hc
     have hrrH : Hid (World.rangeAt _ b (off + m * 4) [.int .i64 x.fr, .int .i64 x.to, .int .i64 x.at', .string x.ty]) := hrr
     have hBn := fun ob => hB.out.call (below_1 _ ob)
     have hBnH : Hid (∀ ob, Rec1 w (World.alloc _ ob) _) := hBn
     clear hrr hrl hxm hdr hmem hib hc hBn
     cases ib with
     | false =>
      go_wp2_with (first | (refine wpList_load_mid rfl 124 _ rfl b (off + m * 4) (by first | rfl | (simp; done)) _ _ hrrH.out Tryz.underlying124 rfl i95.out ?_) | (go_at_call 196; refine (hcH.out _).mono ?_; rintro e w2 ⟨rfl, hb2⟩))
      go_ret
      exact ⟨by rw [hstep.out]; rfl, ((hBnH.out _).call hb2).hb⟩
     | true =>
      go_wp2_with (first | (refine wpList_load_mid rfl 124 _ rfl b (off + m * 4) (by first | rfl | (simp; done)) _ _ hrrH.out Tryz.underlying124 rfl i95.out ?_) | (go_at_call 196; refine (hcH.out _).mono ?_; rintro e w2 ⟨rfl, hb2⟩))
      go_roundw
      case rel => exact ⟨m + 1, by omega, by go_num, (show _ = R by rw [hstep.out]; rfl), (hBnH.out _).call hb2⟩
      case measure => simp [intOf]; omega
    ·have hend := hz.out
     rw [List.drop_eq_nil_of_le (by have := e2H.out; omega)] at hend
     have hR3 : Hid ((fb && lb) = R) := hend
     clear hend hz
     have y0 := hB.out.cell 0 _ rfl
     have y1 := hB.out.cell 1 _ rfl
     have y2 := hB.out.cell 2 _ rfl
     have y3 := hB.out.cell 3 _ rfl
     have y4 := hB.out.cell 4 _ rfl
     have y5 := hB.out.cell 5 _ rfl
     have y6 := hB.out.cell 6 _ rfl
     have y7 := hB.out.cell 7 _ rfl
     have y8 := hB.out.cell 8 _ rfl
     go_wp2_with fail
     refine (fH.out _ hB.out.hb).mono ?_
     rintro e w2 ⟨rfl, hb2⟩
     have r2 : Hid (Rec1 w w2 _) := hB.out.call hb2
     clear hb2 y0 y1 y2 y3 y4 y5 y6 y7 y8
     have y0 := r2.out.cell 0 _ rfl
     have y1 := r2.out.cell 1 _ rfl
     have y2 := r2.out.cell 2 _ rfl
     have y3 := r2.out.cell 3 _ rfl
     have y4 := r2.out.cell 4 _ rfl
     have y5 := r2.out.cell 5 _ rfl
     have y6 := r2.out.cell 6 _ rfl
     have y7 := r2.out.cell 7 _ rfl
     have y8 := r2.out.cell 8 _ rfl
     cases fb with
     | false =>
      go_wp2
      go_ret
      exact ⟨by rw [← hR3.out]; rfl, r2.out.hb⟩
     | true =>
      go_wp2_with (go_at_call 198; refine (lH.out _ r2.out.hb).mono ?_; rintro e w3 ⟨rfl, hb3⟩)
      go_ret
      exact ⟨by rw [← hR3.out]; rfl, below_on2 r2.out.hb hb3⟩
theorem methodWalk (N S : ByteArray) (f k l : Int) (a1 : Option Addr) (n1 c1 : Nat) (a2 : Option Addr) (n2 c2 : Nat) (a3 : Option Addr) (n3 c3 : Nat) (a4 : Option Addr) (n4 c4 : Nat) (b1 b2 b3 b4 b5 b6 b7 b8 : Bool) (w : World)
  (qq1 : ∀ W, Below w.heap.size w W → Calls Tryz.prog 111 #[.string N] W fun e w' => e = .returned (.bool b1) ∧ Below W.heap.size W w')
  (qq2 : ∀ W, Below w.heap.size w W → Calls Tryz.prog 180 #[.string S] W fun e w' => e = .returned (.bool b2) ∧ Below W.heap.size W w')
  (qq3 : ∀ W, Below w.heap.size w W → Calls Tryz.prog 113 #[.int .i64 f, .int .i64 111] W fun e w' => e = .returned (.bool b3) ∧ Below W.heap.size W w')
  (qq4 : ∀ W, Below w.heap.size w W → Calls Tryz.prog 181 #[.int .i64 k, .int .i64 0, .int .i64 40] W fun e w' => e = .returned (.bool b4) ∧ Below W.heap.size W w')
  (qq5 : ∀ W, Below w.heap.size w W → Calls Tryz.prog 181 #[.int .i64 l, .int .i64 0, .int .i64 40] W fun e w' => e = .returned (.bool b5) ∧ Below W.heap.size W w')
  (qq6 : ∀ W, Below w.heap.size w W → Calls Tryz.prog 182 #[methV N S f k l a1 n1 c1 a2 n2 c2 a3 n3 c3 a4 n4 c4] W fun e w' => e = .returned (.bool b6) ∧ Below W.heap.size W w')
  (qq7 : ∀ W, Below w.heap.size w W → Calls Tryz.prog 183 #[methV N S f k l a1 n1 c1 a2 n2 c2 a3 n3 c3 a4 n4 c4] W fun e w' => e = .returned (.bool b7) ∧ Below W.heap.size W w')
  (qq8 : ∀ W, Below w.heap.size w W → Calls Tryz.prog 184 #[methV N S f k l a1 n1 c1 a2 n2 c2 a3 n3 c3 a4 n4 c4] W fun e w' => e = .returned (.bool b8) ∧ Below W.heap.size W w') :
  Calls Tryz.prog 151 #[methV N S f k l a1 n1 c1 a2 n2 c2 a3 n3 c3 a4 n4 c4] w fun e w' => e = .returned (.bool (b1 && (b2 && (b3 && (b4 && (b5 && (b6 && (b7 && b8)))))))) ∧ Below w.heap.size w w' := by
 have qq1H : Hid (∀ W, Below w.heap.size w W → Calls Tryz.prog 111 #[.string N] W fun e w' => e = .returned (.bool b1) ∧ Below W.heap.size W w') := qq1
 have qq2H : Hid (∀ W, Below w.heap.size w W → Calls Tryz.prog 180 #[.string S] W fun e w' => e = .returned (.bool b2) ∧ Below W.heap.size W w') := qq2
 have qq3H : Hid (∀ W, Below w.heap.size w W → Calls Tryz.prog 113 #[.int .i64 f, .int .i64 111] W fun e w' => e = .returned (.bool b3) ∧ Below W.heap.size W w') := qq3
 have qq4H : Hid (∀ W, Below w.heap.size w W → Calls Tryz.prog 181 #[.int .i64 k, .int .i64 0, .int .i64 40] W fun e w' => e = .returned (.bool b4) ∧ Below W.heap.size W w') := qq4
 have qq5H : Hid (∀ W, Below w.heap.size w W → Calls Tryz.prog 181 #[.int .i64 l, .int .i64 0, .int .i64 40] W fun e w' => e = .returned (.bool b5) ∧ Below W.heap.size W w') := qq5
 have qq6H : Hid (∀ W, Below w.heap.size w W → Calls Tryz.prog 182 #[methV N S f k l a1 n1 c1 a2 n2 c2 a3 n3 c3 a4 n4 c4] W fun e w' => e = .returned (.bool b6) ∧ Below W.heap.size W w') := qq6
 have qq7H : Hid (∀ W, Below w.heap.size w W → Calls Tryz.prog 183 #[methV N S f k l a1 n1 c1 a2 n2 c2 a3 n3 c3 a4 n4 c4] W fun e w' => e = .returned (.bool b7) ∧ Below W.heap.size W w') := qq7
 have qq8H : Hid (∀ W, Below w.heap.size w W → Calls Tryz.prog 184 #[methV N S f k l a1 n1 c1 a2 n2 c2 a3 n3 c3 a4 n4 c4] W fun e w' => e = .returned (.bool b8) ∧ Below W.heap.size W w') := qq8
 clear qq1 qq2 qq3 qq4 qq5 qq6 qq7 qq8
 obtain ⟨R, hR⟩ : ∃ R, (b1 && (b2 && (b3 && (b4 && (b5 && (b6 && (b7 && b8))))))) = R := ⟨_, rfl⟩
 rw [hR]
 have hRH : Hid (_ = R) := hR
 clear hR
 go_enter Tryz.func151, Tryz.ntmps151
 go_wp2_with fail
 obtain ⟨W0, hW0⟩ : ∃ W : World, W = w.alloc (.cells #[.string N, .string S, .int .i64 f, .int .i64 k, .int .i64 l, .slice a1 n1 c1, .slice a2 n2 c2, .slice a3 n3 c3, .slice a4 n4 c4] 91) := ⟨_, rfl⟩
 rw [← hW0]
 have r0 : Hid (Rec1 w W0 [.string N, .string S, .int .i64 f, .int .i64 k, .int .i64 l, .slice a1 n1 c1, .slice a2 n2 c2, .slice a3 n3 c3, .slice a4 n4 c4]) := Rec1.start hW0
 clear hW0
 refine (qq1H.out _ r0.out.hb).mono ?_
 rintro e w1 ⟨rfl, hb1⟩
 have r1 : Hid (Rec1 w w1 [.string N, .string S, .int .i64 f, .int .i64 k, .int .i64 l, .slice a1 n1 c1, .slice a2 n2 c2, .slice a3 n3 c3, .slice a4 n4 c4]) := r0.out.call hb1
 clear hb1
 have y0 := r1.out.cell 0 _ rfl
 have y1 := r1.out.cell 1 _ rfl
 have y2 := r1.out.cell 2 _ rfl
 have y3 := r1.out.cell 3 _ rfl
 have y4 := r1.out.cell 4 _ rfl
 have y5 := r1.out.cell 5 _ rfl
 have y6 := r1.out.cell 6 _ rfl
 have y7 := r1.out.cell 7 _ rfl
 have y8 := r1.out.cell 8 _ rfl
 cases b1 with
 | false =>
  go_wp2
  go_ret
  exact ⟨by rw [← hRH.out]; rfl, r1.out.hb⟩
 | true =>
  go_wp2_with fail
  clear y0 y1 y2 y3 y4 y5 y6 y7 y8
  refine (qq2H.out _ r1.out.hb).mono ?_
  rintro e w2 ⟨rfl, hb2⟩
  have r2 : Hid (Rec1 w w2 [.string N, .string S, .int .i64 f, .int .i64 k, .int .i64 l, .slice a1 n1 c1, .slice a2 n2 c2, .slice a3 n3 c3, .slice a4 n4 c4]) := r1.out.call hb2
  clear hb2
  have y0 := r2.out.cell 0 _ rfl
  have y1 := r2.out.cell 1 _ rfl
  have y2 := r2.out.cell 2 _ rfl
  have y3 := r2.out.cell 3 _ rfl
  have y4 := r2.out.cell 4 _ rfl
  have y5 := r2.out.cell 5 _ rfl
  have y6 := r2.out.cell 6 _ rfl
  have y7 := r2.out.cell 7 _ rfl
  have y8 := r2.out.cell 8 _ rfl
  cases b2 with
  | false =>
   go_wp2
   go_ret
   exact ⟨by rw [← hRH.out]; rfl, r2.out.hb⟩
  | true =>
   go_wp2_with fail
   clear y0 y1 y2 y3 y4 y5 y6 y7 y8
   refine (qq3H.out _ r2.out.hb).mono ?_
   rintro e w3 ⟨rfl, hb3⟩
   have r3 : Hid (Rec1 w w3 [.string N, .string S, .int .i64 f, .int .i64 k, .int .i64 l, .slice a1 n1 c1, .slice a2 n2 c2, .slice a3 n3 c3, .slice a4 n4 c4]) := r2.out.call hb3
   clear hb3
   have y0 := r3.out.cell 0 _ rfl
   have y1 := r3.out.cell 1 _ rfl
   have y2 := r3.out.cell 2 _ rfl
   have y3 := r3.out.cell 3 _ rfl
   have y4 := r3.out.cell 4 _ rfl
   have y5 := r3.out.cell 5 _ rfl
   have y6 := r3.out.cell 6 _ rfl
   have y7 := r3.out.cell 7 _ rfl
   have y8 := r3.out.cell 8 _ rfl
   cases b3 with
   | false =>
    go_wp2
    go_ret
    exact ⟨by rw [← hRH.out]; rfl, r3.out.hb⟩
   | true =>
    go_wp2_with fail
    clear y0 y1 y2 y3 y4 y5 y6 y7 y8
    refine (qq4H.out _ r3.out.hb).mono ?_
    rintro e w4 ⟨rfl, hb4⟩
    have r4 : Hid (Rec1 w w4 [.string N, .string S, .int .i64 f, .int .i64 k, .int .i64 l, .slice a1 n1 c1, .slice a2 n2 c2, .slice a3 n3 c3, .slice a4 n4 c4]) := r3.out.call hb4
    clear hb4
    have y0 := r4.out.cell 0 _ rfl
    have y1 := r4.out.cell 1 _ rfl
    have y2 := r4.out.cell 2 _ rfl
    have y3 := r4.out.cell 3 _ rfl
    have y4 := r4.out.cell 4 _ rfl
    have y5 := r4.out.cell 5 _ rfl
    have y6 := r4.out.cell 6 _ rfl
    have y7 := r4.out.cell 7 _ rfl
    have y8 := r4.out.cell 8 _ rfl
    cases b4 with
    | false =>
     go_wp2
     go_ret
     exact ⟨by rw [← hRH.out]; rfl, r4.out.hb⟩
    | true =>
     go_wp2_with fail
     clear y0 y1 y2 y3 y4 y5 y6 y7 y8
     refine (qq5H.out _ r4.out.hb).mono ?_
     rintro e w5 ⟨rfl, hb5⟩
     have r5 : Hid (Rec1 w w5 [.string N, .string S, .int .i64 f, .int .i64 k, .int .i64 l, .slice a1 n1 c1, .slice a2 n2 c2, .slice a3 n3 c3, .slice a4 n4 c4]) := r4.out.call hb5
     clear hb5
     have y0 := r5.out.cell 0 _ rfl
     have y1 := r5.out.cell 1 _ rfl
     have y2 := r5.out.cell 2 _ rfl
     have y3 := r5.out.cell 3 _ rfl
     have y4 := r5.out.cell 4 _ rfl
     have y5 := r5.out.cell 5 _ rfl
     have y6 := r5.out.cell 6 _ rfl
     have y7 := r5.out.cell 7 _ rfl
     have y8 := r5.out.cell 8 _ rfl
     cases b5 with
     | false =>
      go_wp2
      go_ret
      exact ⟨by rw [← hRH.out]; rfl, r5.out.hb⟩
     | true =>
      go_wp2_with fail
      clear y0 y1 y2 y3 y4 y5 y6 y7 y8
      refine (qq6H.out _ r5.out.hb).mono ?_
      rintro e w6 ⟨rfl, hb6⟩
      have r6 : Hid (Rec1 w w6 [.string N, .string S, .int .i64 f, .int .i64 k, .int .i64 l, .slice a1 n1 c1, .slice a2 n2 c2, .slice a3 n3 c3, .slice a4 n4 c4]) := r5.out.call hb6
      clear hb6
      have y0 := r6.out.cell 0 _ rfl
      have y1 := r6.out.cell 1 _ rfl
      have y2 := r6.out.cell 2 _ rfl
      have y3 := r6.out.cell 3 _ rfl
      have y4 := r6.out.cell 4 _ rfl
      have y5 := r6.out.cell 5 _ rfl
      have y6 := r6.out.cell 6 _ rfl
      have y7 := r6.out.cell 7 _ rfl
      have y8 := r6.out.cell 8 _ rfl
      cases b6 with
      | false =>
       go_wp2
       go_ret
       exact ⟨by rw [← hRH.out]; rfl, r6.out.hb⟩
      | true =>
       go_wp2_with fail
       clear y0 y1 y2 y3 y4 y5 y6 y7 y8
       refine (qq7H.out _ r6.out.hb).mono ?_
       rintro e w7 ⟨rfl, hb7⟩
       have r7 : Hid (Rec1 w w7 [.string N, .string S, .int .i64 f, .int .i64 k, .int .i64 l, .slice a1 n1 c1, .slice a2 n2 c2, .slice a3 n3 c3, .slice a4 n4 c4]) := r6.out.call hb7
       clear hb7
       have y0 := r7.out.cell 0 _ rfl
       have y1 := r7.out.cell 1 _ rfl
       have y2 := r7.out.cell 2 _ rfl
       have y3 := r7.out.cell 3 _ rfl
       have y4 := r7.out.cell 4 _ rfl
       have y5 := r7.out.cell 5 _ rfl
       have y6 := r7.out.cell 6 _ rfl
       have y7 := r7.out.cell 7 _ rfl
       have y8 := r7.out.cell 8 _ rfl
       cases b7 with
       | false =>
        go_wp2
        go_ret
        exact ⟨by rw [← hRH.out]; rfl, r7.out.hb⟩
       | true =>
        go_wp2_with fail
        clear y0 y1 y2 y3 y4 y5 y6 y7 y8
        refine (qq8H.out _ r7.out.hb).mono ?_
        rintro e w8 ⟨rfl, hb8⟩
        have r8 : Hid (Rec1 w w8 [.string N, .string S, .int .i64 f, .int .i64 k, .int .i64 l, .slice a1 n1 c1, .slice a2 n2 c2, .slice a3 n3 c3, .slice a4 n4 c4]) := r7.out.call hb8
        clear hb8
        go_wp2
        go_ret
        exact ⟨by rw [← hRH.out]; rfl, r8.out.hb⟩
def methI (x : MethL) : Bool := nameOk x.name.data.toList && (sigOk x.sig.data.toList && (sumB x.flags 111 && (betw x.stack 0 40 && (betw x.locals 0 40 && (bodyB x.sig x.flags x.stack x.locals x.code.length x.hands.length x.frames.length x.lines.length && (specB x.name x.sig x.flags && codeB x.code.length x.locals x.stack x.code x.hands x.frames x.lines))))))
theorem implMethod_calls (x : MethL) (w : World) (row : List Value) (lo hi : Nat) (hh : hi ≤ w.heap.size) (hx : MethR true lo hi w row x) (hy : x.small) (hw : ∀ y ∈ x.code, y.wide) (he : EnvOk w) :
  Calls Tryz.prog 151 #[.agg row.toArray] w fun e w' => e = .returned (.bool (methI x)) ∧ Below w.heap.size w w' := by
 obtain ⟨p, q, s, t, rfl, hp, hq, hs, ht⟩ := hx
 obtain ⟨hN, hS, ⟨hc0, hc1⟩, ⟨hd0, hd1⟩, ⟨hf0, hf1⟩, hl⟩ := hy
 obtain ⟨a1, c1, rfl⟩ := hp.form
 obtain ⟨a2, c2, rfl⟩ := hq.form
 obtain ⟨a3, c3, rfl⟩ := hs.form
 obtain ⟨a4, c4, rfl⟩ := ht.form
 refine methodWalk x.name x.sig x.flags x.stack x.locals a1 _ c1 a2 _ c2 a3 _ c3 a4 _ c4 _ _ _ _ _ _ _ _ w
  (fun W hW => implName_below x.name W (by omega))
  (fun W hW => implSigOk_calls x.sig W hS (he.kept hW).2)
  (fun W hW => (sumOf_calls x.flags 111 W).mono (by rintro e w' ⟨rfl, rfl⟩; exact ⟨rfl, Below.refl _ _⟩))
  (fun W hW => (between_calls x.stack 0 40 W).mono (by rintro e w' ⟨rfl, rfl⟩; exact ⟨rfl, Below.refl _ _⟩))
  (fun W hW => (between_calls x.locals 0 40 W).mono (by rintro e w' ⟨rfl, rfl⟩; exact ⟨rfl, Below.refl _ _⟩))
  (fun W hW => bodyFits_calls _ _ _ _ _ _ _ _ _ _ _ _ _ _ _ _ _ W hS (he.kept hW).2 hc0 hd0 hf0 hl)
  (fun W hW => specialOk_calls _ _ _ _ _ _ _ _ _ _ _ _ _ _ _ _ _ W hS (he.kept hW).2)
  (fun W hW => codeOk_calls _ _ _ _ _ _ _ _ _ _ _ _ _ _ _ _ _ W x.code x.hands x.frames x.lines lo hi (Nat.le_trans hh hW.size)
   (hp.kept InsR.stable (Nat.le_refl _) (Nat.le_refl _) ((Same.below hW).mono (Nat.zero_le _) hh)) (hq.kept HandR.stable (Nat.le_refl _) (Nat.le_refl _) ((Same.below hW).mono (Nat.zero_le _) hh))
   (hs.kept FrameR.stable (Nat.le_refl _) (Nat.le_refl _) ((Same.below hW).mono (Nat.zero_le _) hh)) (ht.kept LineR.stable (Nat.le_refl _) (Nat.le_refl _) ((Same.below hW).mono (Nat.zero_le _) hh))
   rfl rfl rfl rfl hc0 hd0 hf0 hl (fun y hy => ⟨hc1 y hy, hw y hy⟩) hd1 hf1 (he.kept hW))
end Go.Proofs.YtjjccimeikkogaaGreatDoor
