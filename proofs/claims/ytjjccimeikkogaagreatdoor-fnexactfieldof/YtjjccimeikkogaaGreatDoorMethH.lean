import Derived.Test.YtjjccimeikkogaaGreatDoorMethF
import Derived.Laws.Bits128
import Derived.ChangeArms
import Derived.ChangeFn
set_option maxRecDepth 1000000
namespace Go.Proofs.YtjjccimeikkogaaGreatDoor
set_option linter.unusedVariables false
open Go.ChangeShapes Go.WideShapes Go.ChangeAt Go.RowKit
theorem wrap_small (n : Nat) (h : n < 2 ^ 63) : IntKind.i64.wrap (n : Int) = n := by
 rw [IntKind.wrap_i64]; omega
theorem wrap_zero (n : Nat) (h : n < 2 ^ 64) (h0 : IntKind.i64.wrap (n : Int) = 0) : n = 0 := by
 rw [IntKind.wrap_i64] at h0; omega
theorem and_le (X : BitVec 64) : (X &&& BitVec.ofInt 64 111).toNat ≤ 111 := by
 rw [BitVec.toNat_and]
 exact Nat.le_trans Nat.and_le_right (by decide)
theorem flag_same (f : Int) (h1 : -9223372036854775808 ≤ f) (h2 : f < 9223372036854775808) : sumB f 111 = flagB f 111 ∧ (sumB f 111 = true → 0 ≤ f ∧ f ≤ 111) := by
 have ea : bits .and .i64 f 111 = IntKind.i64.wrap ((BitVec.ofInt 64 f &&& BitVec.ofInt 64 111).toNat : Nat) := rfl
 have en : bits .andNot .i64 f 111 = IntKind.i64.wrap ((BitVec.ofInt 64 f &&& ~~~BitVec.ofInt 64 111).toNat : Nat) := rfl
 have hX : ((BitVec.ofInt 64 f).toNat : Int) = f % 18446744073709551616 := by
  rw [BitVec.toNat_ofInt]; omega
 obtain ⟨X, hXe⟩ : ∃ X, X = BitVec.ofInt 64 f := ⟨_, rfl⟩
 rw [← hXe] at ea en hX
 have hle := and_le X
 rw [wrap_small _ (by omega)] at ea
 by_cases h0 : X &&& ~~~BitVec.ofInt 64 111 = 0#64
 ·have hXG : X &&& BitVec.ofInt 64 111 = X := by
   apply BitVec.eq_of_getLsbD_eq
   intro i hi
   have hb := congrArg (fun b : BitVec 64 => b.getLsbD i) h0
   simp only [BitVec.getLsbD_and, BitVec.getLsbD_not, BitVec.getLsbD_zero, hi, decide_true, Bool.true_and] at hb ⊢
   revert hb
   cases X.getLsbD i <;> cases (BitVec.ofInt 64 111).getLsbD i <;> simp
  rw [hXG] at ea hle
  have hf : 0 ≤ f ∧ f ≤ 111 := by omega
  have hs : sumB f 111 = true := by unfold sumB; rw [en, h0]; rfl
  have hg : flagB f 111 = true := by
   unfold flagB
   rw [ea, decide_eq_true hf.1, Bool.true_and, beq_iff_eq]
   omega
  exact ⟨by rw [hs, hg], fun _ => hf⟩
 ·have hs : sumB f 111 = false := by
   unfold sumB
   rw [en]
   apply beq_false_of_ne
   intro hz
   exact h0 (BitVec.eq_of_toNat_eq (by rw [wrap_zero _ (BitVec.isLt _) hz]; rfl))
  refine ⟨?_, fun h => by rw [hs] at h; cases h⟩
  rw [hs]
  cases hg : flagB f 111 with
  | false => rfl
  | true =>
   exfalso
   unfold flagB at hg
   rw [Bool.and_eq_true, decide_eq_true_eq, beq_iff_eq, ea] at hg
   have hXG : X &&& BitVec.ofInt 64 111 = X := BitVec.eq_of_toNat_eq (by omega)
   apply h0
   rw [← hXG, BitVec.and_assoc, BitVec.and_not_self]
   simp
def flagFacts (n : Nat) : Bool := (hasB n 68 == (hasB n 4 || hasB n 64)) && (hasB n 107 == (hasB n 43 || hasB n 64))
theorem flags_all : (List.range 112).all flagFacts = true := by kernel_rfl
theorem flag_facts {f : Int} (h0 : 0 ≤ f) (h1 : f ≤ 111) : hasB f 68 = (hasB f 4 || hasB f 64) ∧ hasB f 107 = (hasB f 43 || hasB f 64) := by
 have := List.all_eq_true.1 flags_all f.toNat (by simp; omega)
 unfold flagFacts at this
 rw [Bool.and_eq_true, beq_iff_eq, beq_iff_eq] at this
 have e : ((f.toNat : Nat) : Int) = f := by omega
 rw [e] at this
 exact this
theorem hand_same (x : HandL) (size : Int) : handS x size = handB x size := by
 unfold handS handB betw wthn
 have e1 : decide (x.fr < 0) = !decide (0 ≤ x.fr) := by rw [← decide_not]; exact decide_eq_decide.2 (by omega)
 have e2 : decide (x.to ≤ x.fr) = !decide (x.fr < x.to) := by rw [← decide_not]; exact decide_eq_decide.2 (by omega)
 have e3 : decide (size < x.to) = !decide (x.to ≤ size) := by rw [← decide_not]; exact decide_eq_decide.2 (by omega)
 have e4 : decide (x.at' ≤ size - 1) = decide (x.at' < size) := decide_eq_decide.2 (by omega)
 rw [e1, e2, e3, e4]
 cases decide (0 ≤ x.fr) <;> cases decide (x.fr < x.to) <;> cases decide (x.to ≤ size) <;> cases decide (0 ≤ x.at') <;> cases decide (x.at' < size) <;> cases (x.ty.toList == []) <;> cases nameOk x.ty.data.toList <;> rfl
theorem frame_same (size locals stack last : Int) (x : FrameL) : frameS size locals stack last x = frameB size locals stack last x := by
 unfold frameS frameB
 have e1 : decide ((x.stk.length : Int) ≤ stack) = !decide (stack < (x.stk.length : Int)) := by rw [← decide_not]; exact decide_eq_decide.2 (by omega)
 rw [e1]
 cases e2 : ((x.locs.length : Int) != locals) with
 | true => cases decide (x.at' ≤ last) <;> cases decide (size ≤ x.at') <;> rfl
 | false =>
  have e3 : (x.locs.length : Int) = locals := by simpa using e2
  rw [decide_eq_true (show (x.locs.length : Int) ≤ locals by omega)]
  cases decide (x.at' ≤ last) <;> cases decide (size ≤ x.at') <;> cases decide (stack < (x.stk.length : Int)) <;> cases shapesB x.locs <;> cases shapesB x.stk <;> rfl
theorem frames_same (size locals stack : Int) : ∀ (fs : List FrameL) (last : Int), framesS size locals stack last fs = framesB size locals stack last fs
 | [], _ => rfl
 | x :: r, last => by
  unfold framesS framesB
  rw [frame_same, frames_same size locals stack r]
theorem code_same (locals stack : Int) (xs : List InsL) (hs : List HandL) (fs : List FrameL) (ls : List LineL) : codeS xs.length locals stack xs hs fs ls = (decide (0 < xs.length) && codeB xs.length locals stack xs hs fs ls) := by
 unfold codeS codeB
 rw [frames_same, show (fun x => handS x (xs.length : Int)) = (fun x => handB x (xs.length : Int)) from funext fun x => hand_same x _]
 have e1 : decide ((xs.length : Int) < 1) = !decide (0 < xs.length) := by rw [← decide_not]; exact decide_eq_decide.2 (by omega)
 rw [e1]
 cases decide (0 < xs.length) <;> cases decide ((400 : Int) < xs.length) <;> cases decide ((20 : Int) < hs.length) <;> cases decide ((400 : Int) < fs.length) <;> cases decide ((400 : Int) < ls.length) <;> rfl
theorem code_empty {locals stack : Int} {xs : List InsL} {hs : List HandL} {fs : List FrameL} {ls : List LineL} (h : sumZ xs.length hs.length fs.length ls.length = true) : codeB xs.length locals stack xs hs fs ls = true := by
 unfold sumZ at h
 rw [decide_eq_true_eq] at h
 obtain rfl : xs = [] := List.eq_nil_of_length_eq_zero (by omega)
 obtain rfl : hs = [] := List.eq_nil_of_length_eq_zero (by omega)
 obtain rfl : fs = [] := List.eq_nil_of_length_eq_zero (by omega)
 obtain rfl : ls = [] := List.eq_nil_of_length_eq_zero (by omega)
 rfl
def methS (x : MethL) : Bool := methT x.name x.sig x.flags x.stack x.locals x.code.length x.hands.length x.frames.length x.lines.length (nameOk x.name.data.toList) (sigOk x.sig.data.toList) (flagB x.flags 111) (betw x.stack 0 40) (betw x.locals 0 40) (codeS x.code.length x.locals x.stack x.code x.hands x.frames x.lines)
theorem method_same (x : MethL) (h1 : -9223372036854775808 ≤ x.flags) (h2 : x.flags < 9223372036854775808) : methS x = methI x := by
 obtain ⟨hs, hf⟩ := flag_same x.flags h1 h2
 unfold methS methI methT bodyB specB
 rw [← hs, code_same]
 cases hb : sumB x.flags 111 with
 | false => cases nameOk x.name.data.toList <;> cases sigOk x.sig.data.toList <;> rfl
 | true =>
  obtain ⟨e68, e107⟩ := flag_facts (hf hb).1 (hf hb).2
  rw [e68, e107]
  have hz := @code_empty x.locals x.stack x.code x.hands x.frames x.lines
  have hp : sumZ x.code.length x.hands.length x.frames.length x.lines.length = true → decide (0 < x.code.length) = false := fun h => by
   unfold sumZ at h
   rw [decide_eq_true_eq] at h
   exact decide_eq_false (by omega)
  have hne : (x.name.toList == [110, 101, 119]) = true → (x.name.toList == [115, 116, 97, 114, 116]) = false := fun h => by rw [eq_of_beq h]; rfl
  generalize codeB x.code.length x.locals x.stack x.code x.hands x.frames x.lines = cb at *
  generalize sumZ x.code.length x.hands.length x.frames.length x.lines.length = z at *
  generalize decide (0 < x.code.length) = pos at *
  generalize decide (placesB x.sig x.flags ≤ x.locals) = pl at *
  generalize (x.name.toList == [110, 101, 119]) = nw at *
  generalize (x.name.toList == [115, 116, 97, 114, 116]) = st at *
  rw [show ((mkS (sigRes x.sig.data.toList)).toList != [86]) = !((mkS (sigRes x.sig.data.toList)).toList == [86]) from rfl, show (x.sig.toList != [40, 41, 86]) = !(x.sig.toList == [40, 41, 86]) from rfl]
  generalize ((mkS (sigRes x.sig.data.toList)).toList == [86]) = rv at *
  generalize (x.sig.toList == [40, 41, 86]) = sv at *
  generalize hasB x.flags 103 = h103 at *
  generalize hasB x.flags 43 = h43 at *
  generalize hasB x.flags 4 = h4 at *
  generalize hasB x.flags 64 = h64 at *
  generalize hasB x.flags 1 = hh1 at *
  generalize (x.stack == 0) = k0 at *
  generalize (x.locals == 0) = l0 at *
  cases nameOk x.name.data.toList <;> cases sigOk x.sig.data.toList <;> cases betw x.stack 0 40 <;> cases betw x.locals 0 40 <;> try rfl
  cases h4 <;> cases h64 <;> cases h43 <;> cases nw <;> cases st <;> simp_all <;> cases z <;> simp_all
  all_goals (cases pl <;> cases pos <;> cases cb <;> cases sv <;> cases hh1 <;> cases rv <;> cases h103 <;> cases k0 <;> cases l0 <;> first | rfl | simp_all)
theorem specMethod_calls (x : MethL) (w : World) (row : List Value) (lo hi : Nat) (hh : hi ≤ w.heap.size) (hx : MethR true lo hi w row x) (hy : x.small) :
  Calls Tryz.prog 137 #[.agg row.toArray] w fun e w' => e = .returned (.bool (methS x)) ∧ Below w.heap.size w w' := by
 obtain ⟨p, q, s, t, rfl, hp, hq, hs, ht⟩ := hx
 obtain ⟨hN, hS, ⟨hc0, hc1⟩, ⟨hd0, hd1⟩, ⟨hf0, hf1⟩, hl⟩ := hy
 obtain ⟨a1, c1, rfl⟩ := hp.form
 obtain ⟨a2, c2, rfl⟩ := hq.form
 obtain ⟨a3, c3, rfl⟩ := hs.form
 obtain ⟨a4, c4, rfl⟩ := ht.form
 refine specMethodWalk x.name x.sig x.flags x.stack x.locals a1 _ c1 a2 _ c2 a3 _ c3 a4 _ c4 _ _ _ _ _ _ w hc0 hd0 hf0 hl hS
  (fun W hW => (specName_calls x.name W (by omega)).mono (by rintro e w' ⟨rfl, rfl⟩; exact ⟨rfl, Below.refl _ _⟩))
  (fun W hW => specSigOk_calls x.sig W hS)
  (fun W hW => (l2Flags_calls x.flags 111 W).mono (by rintro e w' ⟨rfl, rfl⟩; exact ⟨rfl, Below.refl _ _⟩))
  (fun W hW => (l2Between_calls x.stack 0 40 W).mono (by rintro e w' ⟨rfl, rfl⟩; exact ⟨rfl, Below.refl _ _⟩))
  (fun W hW => (l2Between_calls x.locals 0 40 W).mono (by rintro e w' ⟨rfl, rfl⟩; exact ⟨rfl, Below.refl _ _⟩))
  (fun W hW => l2Code_calls _ _ _ _ _ _ _ _ _ _ _ _ _ _ _ _ _ W x.code x.hands x.frames x.lines lo hi (Nat.le_trans hh hW.size)
   (hp.kept InsR.stable (Nat.le_refl _) (Nat.le_refl _) ((Same.below hW).mono (Nat.zero_le _) hh)) (hq.kept HandR.stable (Nat.le_refl _) (Nat.le_refl _) ((Same.below hW).mono (Nat.zero_le _) hh))
   (hs.kept FrameR.stable (Nat.le_refl _) (Nat.le_refl _) ((Same.below hW).mono (Nat.zero_le _) hh)) (ht.kept LineR.stable (Nat.le_refl _) (Nat.le_refl _) ((Same.below hW).mono (Nat.zero_le _) hh))
   rfl rfl rfl rfl hc0 hd0 hf0 hl hc1 hd1 hf1)
theorem list1L {α : Type} {cs : List α} (h : cs.length = 1) : ∃ c0, cs = [c0] := by
 match cs, h with
 | [c0], _ => exact ⟨c0, rfl⟩
theorem list2L {α : Type} {cs : List α} (h : cs.length = 2) : ∃ c0 c1, cs = [c0, c1] := by
 match cs, h with
 | [c0, c1], _ => exact ⟨c0, c1, rfl⟩
theorem list3L {α : Type} {cs : List α} (h : cs.length = 3) : ∃ c0 c1 c2, cs = [c0, c1, c2] := by
 match cs, h with
 | [c0, c1, c2], _ => exact ⟨c0, c1, c2, rfl⟩
theorem list4L {α : Type} {cs : List α} (h : cs.length = 4) : ∃ c0 c1 c2 c3, cs = [c0, c1, c2, c3] := by
 match cs, h with
 | [c0, c1, c2, c3], _ => exact ⟨c0, c1, c2, c3, rfl⟩
theorem list9L {α : Type} {cs : List α} (h : cs.length = 9) : ∃ c0 c1 c2 c3 c4 c5 c6 c7 c8, cs = [c0, c1, c2, c3, c4, c5, c6, c7, c8] := by
 match cs, h with
 | [c0, c1, c2, c3, c4, c5, c6, c7, c8], _ => exact ⟨c0, c1, c2, c3, c4, c5, c6, c7, c8, rfl⟩
theorem cellsN2 : Tryz.prog.cellsOf 2 = 1 := by kernel_rfl
theorem cellsN9 : Tryz.prog.cellsOf 9 = 1 := by kernel_rfl
theorem cellsN22 : Tryz.prog.cellsOf 102 = 1 := by kernel_rfl
theorem cellsN23 : Tryz.prog.cellsOf 103 = 1 := by kernel_rfl
theorem cellsN24 : Tryz.prog.cellsOf 104 = 1 := by kernel_rfl
theorem cellsN25 : Tryz.prog.cellsOf 105 = 1 := by kernel_rfl
theorem cellsN39 : Tryz.prog.cellsOf 24 = 1 := by kernel_rfl
theorem cellsN81 : Tryz.prog.cellsOf 108 = 1 := by kernel_rfl
theorem open_intE {H : Type} {enc : TypeId × Value → H} {W : World} {n : Nat} {cs : List Value} {z : DataW H × List MemPlace} (hl : cs.length = 1) (h : DataW.trod enc Tryz.prog W 0 (fun _ => true) true n 2 cs = some z) : ∃ x : Int, IntR false 0 W.heap.size W cs x ∧ True := by
 obtain ⟨c0, rfl⟩ := list1L hl
 obtain ⟨o, e0, -, -⟩ := DataW.trod_int Tryz.underlying2 h
 simp at e0
 subst e0
 exact ⟨o, rfl, trivial⟩
theorem open_strE {H : Type} {enc : TypeId × Value → H} {W : World} {n : Nat} {cs : List Value} {z : DataW H × List MemPlace} (hl : cs.length = 1) (h : DataW.trod enc Tryz.prog W 0 (fun _ => true) true n 9 cs = some z) : ∃ x : ByteArray, StrR false 0 W.heap.size W cs x ∧ x.size ≤ 9223372036854775807 := by
 obtain ⟨c0, rfl⟩ := list1L hl
 obtain ⟨o, e0, -, hT⟩ := DataW.trod_string Tryz.underlying9 h
 simp at e0
 subst e0
 unfold maxLen at hT
 exact ⟨o, rfl, by omega⟩
theorem open_insE {H : Type} {enc : TypeId × Value → H} {W : World} {n : Nat} {cs : List Value} {z : DataW H × List MemPlace} (hl : cs.length = 9) (h : DataW.trod enc Tryz.prog W 0 (fun _ => true) true n 157 cs = some z) (hlt : ∀ p ∈ z.2, p.block < W.heap.size) :
  ∃ x : InsL, InsR false 0 W.heap.size W cs x ∧ (x.upto ∧ x.wide) := by
 obtain ⟨c0, c1, c2, c3, c4, c5, c6, c7, c8, rfl⟩ := list9L hl
 obtain ⟨xs, n', _, hx, _, hlen, hfld⟩ := DataW.trod_struct Tryz.underlying157 h
 obtain ⟨y0, y1, y2, y3, y4, y5, y6, y7, y8, rfl⟩ := list9L hlen
 have g0 : DataW.trod enc Tryz.prog W 0 (fun _ => true) true n' 2 [c0] = some y0 := by simpa [cellsN2] using hfld 0 _ rfl
 have g1 : DataW.trod enc Tryz.prog W 0 (fun _ => true) true n' 2 [c1] = some y1 := by simpa [cellsN2] using hfld 1 _ rfl
 have g2 : DataW.trod enc Tryz.prog W 0 (fun _ => true) true n' 2 [c2] = some y2 := by simpa [cellsN2] using hfld 2 _ rfl
 have g3 : DataW.trod enc Tryz.prog W 0 (fun _ => true) true n' 2 [c3] = some y3 := by simpa [cellsN2] using hfld 3 _ rfl
 have g4 : DataW.trod enc Tryz.prog W 0 (fun _ => true) true n' 9 [c4] = some y4 := by simpa [cellsN2, cellsN9] using hfld 4 _ rfl
 have g5 : DataW.trod enc Tryz.prog W 0 (fun _ => true) true n' 9 [c5] = some y5 := by simpa [cellsN2, cellsN9] using hfld 5 _ rfl
 have g6 : DataW.trod enc Tryz.prog W 0 (fun _ => true) true n' 9 [c6] = some y6 := by simpa [cellsN2, cellsN9] using hfld 6 _ rfl
 have g7 : DataW.trod enc Tryz.prog W 0 (fun _ => true) true n' 9 [c7] = some y7 := by simpa [cellsN2, cellsN9] using hfld 7 _ rfl
 have g8 : DataW.trod enc Tryz.prog W 0 (fun _ => true) true n' 108 [c8] = some y8 := by simpa [cellsN2, cellsN9, cellsN81] using hfld 8 _ rfl
 obtain ⟨i0, e0, -, w0⟩ := DataW.trod_int Tryz.underlying2 g0
 simp at e0
 subst e0
 have b0 := bounds_i64 w0
 obtain ⟨i1, e1, -, w1⟩ := DataW.trod_int Tryz.underlying2 g1
 simp at e1
 subst e1
 have b1 := bounds_i64 w1
 obtain ⟨i2, e2, -, w2⟩ := DataW.trod_int Tryz.underlying2 g2
 simp at e2
 subst e2
 have b2 := bounds_i64 w2
 obtain ⟨i3, e3, -, w3⟩ := DataW.trod_int Tryz.underlying2 g3
 simp at e3
 subst e3
 have b3 := bounds_i64 w3
 obtain ⟨s4, e4, -, t4⟩ := DataW.trod_string Tryz.underlying9 g4
 simp at e4
 subst e4
 unfold maxLen at t4
 obtain ⟨s5, e5, -, t5⟩ := DataW.trod_string Tryz.underlying9 g5
 simp at e5
 subst e5
 unfold maxLen at t5
 obtain ⟨s6, e6, -, t6⟩ := DataW.trod_string Tryz.underlying9 g6
 simp at e6
 subst e6
 unfold maxLen at t6
 obtain ⟨s7, e7, -, t7⟩ := DataW.trod_string Tryz.underlying9 g7
 simp at e7
 subst e7
 unfold maxLen at t7
 obtain ⟨l8, L8, n8, q8⟩ := open_list IntR 1 (fun _ => True) (by omega) Tryz.underlying108 (by kernel_rfl) (fun n cs z hl h hlt => open_intE hl h) g8 (fun p hp => hlt p (by rw [hx]; simp [hp]))
 exact ⟨⟨i0, i1, i2, i3, s4, s5, s6, s7, l8⟩, ⟨c8, rfl, L8⟩, ⟨by show s4.size ≤ _; omega, by show s5.size ≤ _; omega, by show s6.size ≤ _; omega, by show s7.size ≤ _; omega, n8⟩, by show _ ≤ i2; omega, by show i2 < _; omega⟩
theorem open_handE {H : Type} {enc : TypeId × Value → H} {W : World} {n : Nat} {cs : List Value} {z : DataW H × List MemPlace} (hl : cs.length = 4) (h : DataW.trod enc Tryz.prog W 0 (fun _ => true) true n 159 cs = some z) (hlt : ∀ p ∈ z.2, p.block < W.heap.size) :
  ∃ x : HandL, HandR false 0 W.heap.size W cs x ∧ x.upto := by
 obtain ⟨c0, c1, c2, c3, rfl⟩ := list4L hl
 obtain ⟨xs, n', _, hx, _, hlen, hfld⟩ := DataW.trod_struct Tryz.underlying159 h
 obtain ⟨y0, y1, y2, y3, rfl⟩ := list4L hlen
 have g0 : DataW.trod enc Tryz.prog W 0 (fun _ => true) true n' 2 [c0] = some y0 := by simpa [cellsN2] using hfld 0 _ rfl
 have g1 : DataW.trod enc Tryz.prog W 0 (fun _ => true) true n' 2 [c1] = some y1 := by simpa [cellsN2] using hfld 1 _ rfl
 have g2 : DataW.trod enc Tryz.prog W 0 (fun _ => true) true n' 2 [c2] = some y2 := by simpa [cellsN2] using hfld 2 _ rfl
 have g3 : DataW.trod enc Tryz.prog W 0 (fun _ => true) true n' 9 [c3] = some y3 := by simpa [cellsN2, cellsN9] using hfld 3 _ rfl
 obtain ⟨i0, e0, -, w0⟩ := DataW.trod_int Tryz.underlying2 g0
 simp at e0
 subst e0
 have b0 := bounds_i64 w0
 obtain ⟨i1, e1, -, w1⟩ := DataW.trod_int Tryz.underlying2 g1
 simp at e1
 subst e1
 have b1 := bounds_i64 w1
 obtain ⟨i2, e2, -, w2⟩ := DataW.trod_int Tryz.underlying2 g2
 simp at e2
 subst e2
 have b2 := bounds_i64 w2
 obtain ⟨s3, e3, -, t3⟩ := DataW.trod_string Tryz.underlying9 g3
 simp at e3
 subst e3
 unfold maxLen at t3
 exact ⟨⟨i0, i1, i2, s3⟩, rfl, (by show s3.size ≤ _; omega)⟩
theorem open_frameE {H : Type} {enc : TypeId × Value → H} {W : World} {n : Nat} {cs : List Value} {z : DataW H × List MemPlace} (hl : cs.length = 3) (h : DataW.trod enc Tryz.prog W 0 (fun _ => true) true n 161 cs = some z) (hlt : ∀ p ∈ z.2, p.block < W.heap.size) :
  ∃ x : FrameL, FrameR false 0 W.heap.size W cs x ∧ x.upto := by
 obtain ⟨c0, c1, c2, rfl⟩ := list3L hl
 obtain ⟨xs, n', _, hx, _, hlen, hfld⟩ := DataW.trod_struct Tryz.underlying161 h
 obtain ⟨y0, y1, y2, rfl⟩ := list3L hlen
 have g0 : DataW.trod enc Tryz.prog W 0 (fun _ => true) true n' 2 [c0] = some y0 := by simpa [cellsN2] using hfld 0 _ rfl
 have g1 : DataW.trod enc Tryz.prog W 0 (fun _ => true) true n' 24 [c1] = some y1 := by simpa [cellsN2, cellsN39] using hfld 1 _ rfl
 have g2 : DataW.trod enc Tryz.prog W 0 (fun _ => true) true n' 24 [c2] = some y2 := by simpa [cellsN2, cellsN39] using hfld 2 _ rfl
 obtain ⟨i0, e0, -, w0⟩ := DataW.trod_int Tryz.underlying2 g0
 simp at e0
 subst e0
 have b0 := bounds_i64 w0
 obtain ⟨l1, L1, n1, q1⟩ := open_list StrR 1 (fun s => s.size ≤ 9223372036854775807) (by omega) Tryz.underlying24 (by kernel_rfl) (fun n cs z hl h hlt => open_strE hl h) g1 (fun p hp => hlt p (by rw [hx]; simp [hp]))
 obtain ⟨l2, L2, n2, q2⟩ := open_list StrR 1 (fun s => s.size ≤ 9223372036854775807) (by omega) Tryz.underlying24 (by kernel_rfl) (fun n cs z hl h hlt => open_strE hl h) g2 (fun p hp => hlt p (by rw [hx]; simp [hp]))
 exact ⟨⟨i0, l1, l2⟩, ⟨c1, c2, rfl, L1, L2⟩, n1, n2, q1, q2⟩
theorem open_lineE {H : Type} {enc : TypeId × Value → H} {W : World} {n : Nat} {cs : List Value} {z : DataW H × List MemPlace} (hl : cs.length = 2) (h : DataW.trod enc Tryz.prog W 0 (fun _ => true) true n 167 cs = some z) (hlt : ∀ p ∈ z.2, p.block < W.heap.size) :
  ∃ x : LineL, LineR false 0 W.heap.size W cs x ∧ True := by
 obtain ⟨c0, c1, rfl⟩ := list2L hl
 obtain ⟨xs, n', _, hx, _, hlen, hfld⟩ := DataW.trod_struct Tryz.underlying167 h
 obtain ⟨y0, y1, rfl⟩ := list2L hlen
 have g0 : DataW.trod enc Tryz.prog W 0 (fun _ => true) true n' 2 [c0] = some y0 := by simpa [cellsN2] using hfld 0 _ rfl
 have g1 : DataW.trod enc Tryz.prog W 0 (fun _ => true) true n' 2 [c1] = some y1 := by simpa [cellsN2] using hfld 1 _ rfl
 obtain ⟨i0, e0, -, w0⟩ := DataW.trod_int Tryz.underlying2 g0
 simp at e0
 subst e0
 have b0 := bounds_i64 w0
 obtain ⟨i1, e1, -, w1⟩ := DataW.trod_int Tryz.underlying2 g1
 simp at e1
 subst e1
 have b1 := bounds_i64 w1
 exact ⟨⟨i0, i1⟩, rfl, trivial⟩
theorem open_methE {H : Type} {enc : TypeId × Value → H} {W : World} {n : Nat} {cs : List Value} {z : DataW H × List MemPlace} (hl : cs.length = 9) (h : DataW.trod enc Tryz.prog W 0 (fun _ => true) true n 107 cs = some z) (hlt : ∀ p ∈ z.2, p.block < W.heap.size) :
  ∃ x : MethL, MethR false 0 W.heap.size W cs x ∧ (x.upto ∧ (∀ y ∈ x.code, y.wide) ∧ -9223372036854775808 ≤ x.flags ∧ x.flags < 9223372036854775808) := by
 obtain ⟨c0, c1, c2, c3, c4, c5, c6, c7, c8, rfl⟩ := list9L hl
 obtain ⟨xs, n', _, hx, _, hlen, hfld⟩ := DataW.trod_struct Tryz.underlying107 h
 obtain ⟨y0, y1, y2, y3, y4, y5, y6, y7, y8, rfl⟩ := list9L hlen
 have g0 : DataW.trod enc Tryz.prog W 0 (fun _ => true) true n' 9 [c0] = some y0 := by simpa [cellsN9] using hfld 0 _ rfl
 have g1 : DataW.trod enc Tryz.prog W 0 (fun _ => true) true n' 9 [c1] = some y1 := by simpa [cellsN9] using hfld 1 _ rfl
 have g2 : DataW.trod enc Tryz.prog W 0 (fun _ => true) true n' 2 [c2] = some y2 := by simpa [cellsN2, cellsN9] using hfld 2 _ rfl
 have g3 : DataW.trod enc Tryz.prog W 0 (fun _ => true) true n' 2 [c3] = some y3 := by simpa [cellsN2, cellsN9] using hfld 3 _ rfl
 have g4 : DataW.trod enc Tryz.prog W 0 (fun _ => true) true n' 2 [c4] = some y4 := by simpa [cellsN2, cellsN9] using hfld 4 _ rfl
 have g5 : DataW.trod enc Tryz.prog W 0 (fun _ => true) true n' 102 [c5] = some y5 := by simpa [cellsN2, cellsN9, cellsN22] using hfld 5 _ rfl
 have g6 : DataW.trod enc Tryz.prog W 0 (fun _ => true) true n' 103 [c6] = some y6 := by simpa [cellsN2, cellsN9, cellsN22, cellsN23] using hfld 6 _ rfl
 have g7 : DataW.trod enc Tryz.prog W 0 (fun _ => true) true n' 104 [c7] = some y7 := by simpa [cellsN2, cellsN9, cellsN22, cellsN23, cellsN24] using hfld 7 _ rfl
 have g8 : DataW.trod enc Tryz.prog W 0 (fun _ => true) true n' 105 [c8] = some y8 := by simpa [cellsN2, cellsN9, cellsN22, cellsN23, cellsN24, cellsN25] using hfld 8 _ rfl
 obtain ⟨s0, e0, -, t0⟩ := DataW.trod_string Tryz.underlying9 g0
 simp at e0
 subst e0
 unfold maxLen at t0
 obtain ⟨s1, e1, -, t1⟩ := DataW.trod_string Tryz.underlying9 g1
 simp at e1
 subst e1
 unfold maxLen at t1
 obtain ⟨i2, e2, -, w2⟩ := DataW.trod_int Tryz.underlying2 g2
 simp at e2
 subst e2
 have b2 := bounds_i64 w2
 obtain ⟨i3, e3, -, w3⟩ := DataW.trod_int Tryz.underlying2 g3
 simp at e3
 subst e3
 have b3 := bounds_i64 w3
 obtain ⟨i4, e4, -, w4⟩ := DataW.trod_int Tryz.underlying2 g4
 simp at e4
 subst e4
 have b4 := bounds_i64 w4
 obtain ⟨l5, L5, n5, q5⟩ := open_list InsR 9 (fun x => x.upto ∧ x.wide) (by omega) Tryz.underlying102 (by kernel_rfl) (fun n cs z hl h hlt => open_insE hl h hlt) g5 (fun p hp => hlt p (by rw [hx]; simp [hp]))
 obtain ⟨l6, L6, n6, q6⟩ := open_list HandR 4 (fun x => x.upto) (by omega) Tryz.underlying103 (by kernel_rfl) (fun n cs z hl h hlt => open_handE hl h hlt) g6 (fun p hp => hlt p (by rw [hx]; simp [hp]))
 obtain ⟨l7, L7, n7, q7⟩ := open_list FrameR 3 (fun x => x.upto) (by omega) Tryz.underlying104 (by kernel_rfl) (fun n cs z hl h hlt => open_frameE hl h hlt) g7 (fun p hp => hlt p (by rw [hx]; simp [hp]))
 obtain ⟨l8, L8, n8, q8⟩ := open_list LineR 2 (fun _ => True) (by omega) Tryz.underlying105 (by kernel_rfl) (fun n cs z hl h hlt => open_lineE hl h hlt) g8 (fun p hp => hlt p (by rw [hx]; simp [hp]))
 exact ⟨⟨s0, s1, i2, i3, i4, l5, l6, l7, l8⟩, ⟨c5, c6, c7, c8, rfl, L5, L6, L7, L8⟩, ⟨by show s0.size ≤ _; omega, by show s1.size ≤ _; omega, ⟨n5, fun y hy => (q5 y hy).1⟩, ⟨n6, q6⟩, ⟨n7, q7⟩, n8⟩, fun y hy => (q5 y hy).2, by show _ ≤ i2; omega, by show i2 < _; omega⟩
end Go.Proofs.YtjjccimeikkogaaGreatDoor
