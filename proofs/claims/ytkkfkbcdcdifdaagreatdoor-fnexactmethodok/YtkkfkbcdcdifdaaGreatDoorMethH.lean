/- What the program and the specification say of a method is the same. -/
import Derived.Test.YtkkfkbcdcdifdaaGreatDoorMethE
import Derived.Test.YtkkfkbcdcdifdaaGreatDoorMethF
import Derived.Test.YtkkfkbcdcdifdaaGreatDoorMethG
import Derived.Laws.Bits128
namespace Go.Proofs.YtkkfkbcdcdifdaaGreatDoor
set_option linter.unusedVariables false
open Go.ChangeShapes Go.WideShapes Go.ChangeAt Go.RowKit

theorem wrap_small (n : Nat) (h : n < 2 ^ 63) : IntKind.i64.wrap (n : Int) = n := by
  rw [IntKind.wrap_i64]; omega
theorem wrap_zero (n : Nat) (h : n < 2 ^ 64) (h0 : IntKind.i64.wrap (n : Int) = 0) : n = 0 := by
  rw [IntKind.wrap_i64] at h0; omega
theorem and_le (X : BitVec 64) : (X &&& BitVec.ofInt 64 111).toNat ≤ 111 := by
  rw [BitVec.toNat_and]
  exact Nat.le_trans Nat.and_le_right (by decide)
theorem flag_same (f : Int) (h1 : -9223372036854775808 ≤ f) (h2 : f < 9223372036854775808) : sumB f 111 = flagB f 111 ∧ (sumB f 111 = true → 0 ≤ f ∧ f ≤ 111) := by
  have ea : bits .and .i64 f 111 = IntKind.i64.wrap ((BitVec.ofInt 64 f &&& BitVec.ofInt 64 111).toNat : Nat) := rfl
  have en : bits .andNot .i64 f 111 = IntKind.i64.wrap ((BitVec.ofInt 64 f &&& ~~~BitVec.ofInt 64 111).toNat : Nat) := rfl
  have hX : ((BitVec.ofInt 64 f).toNat : Int) = f % 18446744073709551616 := by
    rw [BitVec.toNat_ofInt]; omega
  obtain ⟨X, hXe⟩ : ∃ X, X = BitVec.ofInt 64 f := ⟨_, rfl⟩
  rw [← hXe] at ea en hX
  have hle := and_le X
  rw [wrap_small _ (by omega)] at ea
  by_cases h0 : X &&& ~~~BitVec.ofInt 64 111 = 0#64
  · have hXG : X &&& BitVec.ofInt 64 111 = X := by
      apply BitVec.eq_of_getLsbD_eq
      intro i hi
      have hb := congrArg (fun b : BitVec 64 => b.getLsbD i) h0
      simp only [BitVec.getLsbD_and, BitVec.getLsbD_not, BitVec.getLsbD_zero, hi, decide_true, Bool.true_and] at hb ⊢
      revert hb
      cases X.getLsbD i <;> cases (BitVec.ofInt 64 111).getLsbD i <;> simp
    rw [hXG] at ea hle
    have hf : 0 ≤ f ∧ f ≤ 111 := by omega
    have hs : sumB f 111 = true := by unfold sumB; rw [en, h0]; rfl
    have hg : flagB f 111 = true := by
      unfold flagB
      rw [ea, decide_eq_true hf.1, Bool.true_and, beq_iff_eq]
      omega
    exact ⟨by rw [hs, hg], fun _ => hf⟩
  · have hs : sumB f 111 = false := by
      unfold sumB
      rw [en]
      apply beq_false_of_ne
      intro hz
      exact h0 (BitVec.eq_of_toNat_eq (by rw [wrap_zero _ (BitVec.isLt _) hz]; rfl))
    refine ⟨?_, fun h => by rw [hs] at h; cases h⟩
    rw [hs]
    cases hg : flagB f 111 with
    | false => rfl
    | true =>
      exfalso
      unfold flagB at hg
      rw [Bool.and_eq_true, decide_eq_true_eq, beq_iff_eq, ea] at hg
      have hXG : X &&& BitVec.ofInt 64 111 = X := BitVec.eq_of_toNat_eq (by omega)
      apply h0
      rw [← hXG, BitVec.and_assoc, BitVec.and_not_self]
      simp

def flagFacts (n : Nat) : Bool := (hasB n 68 == (hasB n 4 || hasB n 64)) && (hasB n 107 == (hasB n 43 || hasB n 64))
theorem flags_all : (List.range 112).all flagFacts = true := by kernel_rfl
theorem flag_facts {f : Int} (h0 : 0 ≤ f) (h1 : f ≤ 111) : hasB f 68 = (hasB f 4 || hasB f 64) ∧ hasB f 107 = (hasB f 43 || hasB f 64) := by
  have := List.all_eq_true.1 flags_all f.toNat (by simp; omega)
  unfold flagFacts at this
  rw [Bool.and_eq_true, beq_iff_eq, beq_iff_eq] at this
  have e : ((f.toNat : Nat) : Int) = f := by omega
  rw [e] at this
  exact this

theorem hand_same (x : HandL) (size : Int) : handS x size = handB x size := by
  unfold handS handB betw wthn
  have e1 : decide (x.fr < 0) = !decide (0 ≤ x.fr) := by rw [← decide_not]; exact decide_eq_decide.2 (by omega)
  have e2 : decide (x.to ≤ x.fr) = !decide (x.fr < x.to) := by rw [← decide_not]; exact decide_eq_decide.2 (by omega)
  have e3 : decide (size < x.to) = !decide (x.to ≤ size) := by rw [← decide_not]; exact decide_eq_decide.2 (by omega)
  have e4 : decide (x.at' ≤ size - 1) = decide (x.at' < size) := decide_eq_decide.2 (by omega)
  rw [e1, e2, e3, e4]
  cases decide (0 ≤ x.fr) <;> cases decide (x.fr < x.to) <;> cases decide (x.to ≤ size) <;> cases decide (0 ≤ x.at') <;> cases decide (x.at' < size) <;> cases (x.ty.toList == []) <;> cases nameOk x.ty.data.toList <;> rfl
theorem frame_same (size locals stack last : Int) (x : FrameL) : frameS size locals stack last x = frameB size locals stack last x := by
  unfold frameS frameB
  have e1 : decide ((x.stk.length : Int) ≤ stack) = !decide (stack < (x.stk.length : Int)) := by rw [← decide_not]; exact decide_eq_decide.2 (by omega)
  rw [e1]
  cases e2 : ((x.locs.length : Int) != locals) with
  | true => cases decide (x.at' ≤ last) <;> cases decide (size ≤ x.at') <;> rfl
  | false =>
    have e3 : (x.locs.length : Int) = locals := by simpa using e2
    rw [decide_eq_true (show (x.locs.length : Int) ≤ locals by omega)]
    cases decide (x.at' ≤ last) <;> cases decide (size ≤ x.at') <;> cases decide (stack < (x.stk.length : Int)) <;> cases shapesB x.locs <;> cases shapesB x.stk <;> rfl
theorem frames_same (size locals stack : Int) : ∀ (fs : List FrameL) (last : Int), framesS size locals stack last fs = framesB size locals stack last fs
  | [], _ => rfl
  | x :: r, last => by
    unfold framesS framesB
    rw [frame_same, frames_same size locals stack r]
theorem code_same (locals stack : Int) (xs : List InsL) (hs : List HandL) (fs : List FrameL) (ls : List LineL) : codeS xs.length locals stack xs hs fs ls = (decide (0 < xs.length) && codeB xs.length locals stack xs hs fs ls) := by
  unfold codeS codeB
  rw [frames_same, show (fun x => handS x (xs.length : Int)) = (fun x => handB x (xs.length : Int)) from funext fun x => hand_same x _]
  have e1 : decide ((xs.length : Int) < 1) = !decide (0 < xs.length) := by rw [← decide_not]; exact decide_eq_decide.2 (by omega)
  rw [e1]
  cases decide (0 < xs.length) <;> cases decide ((400 : Int) < xs.length) <;> cases decide ((20 : Int) < hs.length) <;> cases decide ((400 : Int) < fs.length) <;> cases decide ((400 : Int) < ls.length) <;> rfl
theorem code_empty {locals stack : Int} {xs : List InsL} {hs : List HandL} {fs : List FrameL} {ls : List LineL} (h : sumZ xs.length hs.length fs.length ls.length = true) : codeB xs.length locals stack xs hs fs ls = true := by
  unfold sumZ at h
  rw [decide_eq_true_eq] at h
  obtain rfl : xs = [] := List.eq_nil_of_length_eq_zero (by omega)
  obtain rfl : hs = [] := List.eq_nil_of_length_eq_zero (by omega)
  obtain rfl : fs = [] := List.eq_nil_of_length_eq_zero (by omega)
  obtain rfl : ls = [] := List.eq_nil_of_length_eq_zero (by omega)
  rfl

/-- What the specification says of a method. -/
def methS (x : MethL) : Bool := methT x.name x.sig x.flags x.stack x.locals x.code.length x.hands.length x.frames.length x.lines.length (nameOk x.name.data.toList) (sigOk x.sig.data.toList) (flagB x.flags 111) (betw x.stack 0 40) (betw x.locals 0 40) (codeS x.code.length x.locals x.stack x.code x.hands x.frames x.lines)

theorem method_same (x : MethL) (h1 : -9223372036854775808 ≤ x.flags) (h2 : x.flags < 9223372036854775808) : methS x = methI x := by
  obtain ⟨hs, hf⟩ := flag_same x.flags h1 h2
  unfold methS methI methT bodyB specB
  rw [← hs, code_same]
  cases hb : sumB x.flags 111 with
  | false => cases nameOk x.name.data.toList <;> cases sigOk x.sig.data.toList <;> rfl
  | true =>
    obtain ⟨e68, e107⟩ := flag_facts (hf hb).1 (hf hb).2
    rw [e68, e107]
    have hz := @code_empty x.locals x.stack x.code x.hands x.frames x.lines
    have hp : sumZ x.code.length x.hands.length x.frames.length x.lines.length = true → decide (0 < x.code.length) = false := fun h => by
      unfold sumZ at h
      rw [decide_eq_true_eq] at h
      exact decide_eq_false (by omega)
    have hne : (x.name.toList == [110, 101, 119]) = true → (x.name.toList == [115, 116, 97, 114, 116]) = false := fun h => by rw [eq_of_beq h]; rfl
    generalize codeB x.code.length x.locals x.stack x.code x.hands x.frames x.lines = cb at *
    generalize sumZ x.code.length x.hands.length x.frames.length x.lines.length = z at *
    generalize decide (0 < x.code.length) = pos at *
    generalize decide (placesB x.sig x.flags ≤ x.locals) = pl at *
    generalize (x.name.toList == [110, 101, 119]) = nw at *
    generalize (x.name.toList == [115, 116, 97, 114, 116]) = st at *
    rw [show ((mkS (sigRes x.sig.data.toList)).toList != [86]) = !((mkS (sigRes x.sig.data.toList)).toList == [86]) from rfl, show (x.sig.toList != [40, 41, 86]) = !(x.sig.toList == [40, 41, 86]) from rfl]
    generalize ((mkS (sigRes x.sig.data.toList)).toList == [86]) = rv at *
    generalize (x.sig.toList == [40, 41, 86]) = sv at *
    generalize hasB x.flags 103 = h103 at *
    generalize hasB x.flags 43 = h43 at *
    generalize hasB x.flags 4 = h4 at *
    generalize hasB x.flags 64 = h64 at *
    generalize hasB x.flags 1 = hh1 at *
    generalize (x.stack == 0) = k0 at *
    generalize (x.locals == 0) = l0 at *
    cases nameOk x.name.data.toList <;> cases sigOk x.sig.data.toList <;> cases betw x.stack 0 40 <;> cases betw x.locals 0 40 <;> try rfl
    cases h4 <;> cases h64 <;> cases h43 <;> cases nw <;> cases st <;> simp_all <;> cases z <;> simp_all
    all_goals (cases pl <;> cases pos <;> cases cb <;> cases sv <;> cases hh1 <;> cases rv <;> cases h103 <;> cases k0 <;> cases l0 <;> first | rfl | simp_all)

set_option maxRecDepth 1000000 in
theorem specMethod_calls (x : MethL) (w : World) (row : List Value) (lo hi : Nat) (hh : hi ≤ w.heap.size) (hx : MethR true lo hi w row x) (hy : x.small) :
    Calls Tryz.prog 6 #[.agg row.toArray] w fun e w' => e = .returned (.bool (methS x)) ∧ Below w.heap.size w w' := by
  obtain ⟨p, q, s, t, rfl, hp, hq, hs, ht⟩ := hx
  obtain ⟨hN, hS, ⟨hc0, hc1⟩, ⟨hd0, hd1⟩, ⟨hf0, hf1⟩, hl⟩ := hy
  obtain ⟨a1, c1, rfl⟩ := hp.form
  obtain ⟨a2, c2, rfl⟩ := hq.form
  obtain ⟨a3, c3, rfl⟩ := hs.form
  obtain ⟨a4, c4, rfl⟩ := ht.form
  refine specMethodWalk x.name x.sig x.flags x.stack x.locals a1 _ c1 a2 _ c2 a3 _ c3 a4 _ c4 _ _ _ _ _ _ w hc0 hd0 hf0 hl hS
    (fun W hW => (specName_calls x.name W (by omega)).mono (by rintro e w' ⟨rfl, rfl⟩; exact ⟨rfl, Below.refl _ _⟩))
    (fun W hW => specSigOk_calls x.sig W hS)
    (fun W hW => (l2Flags_calls x.flags 111 W).mono (by rintro e w' ⟨rfl, rfl⟩; exact ⟨rfl, Below.refl _ _⟩))
    (fun W hW => (l2Between_calls x.stack 0 40 W).mono (by rintro e w' ⟨rfl, rfl⟩; exact ⟨rfl, Below.refl _ _⟩))
    (fun W hW => (l2Between_calls x.locals 0 40 W).mono (by rintro e w' ⟨rfl, rfl⟩; exact ⟨rfl, Below.refl _ _⟩))
    (fun W hW => l2Code_calls _ _ _ _ _ _ _ _ _ _ _ _ _ _ _ _ _ W x.code x.hands x.frames x.lines lo hi (Nat.le_trans hh hW.size)
      (hp.kept InsR.stable (Nat.le_refl _) (Nat.le_refl _) ((Same.below hW).mono (Nat.zero_le _) hh)) (hq.kept HandR.stable (Nat.le_refl _) (Nat.le_refl _) ((Same.below hW).mono (Nat.zero_le _) hh))
      (hs.kept FrameR.stable (Nat.le_refl _) (Nat.le_refl _) ((Same.below hW).mono (Nat.zero_le _) hh)) (ht.kept LineR.stable (Nat.le_refl _) (Nat.le_refl _) ((Same.below hW).mono (Nat.zero_le _) hh))
      rfl rfl rfl rfl hc0 hd0 hf0 hl hc1 hd1 hf1)
end Go.Proofs.YtkkfkbcdcdifdaaGreatDoor
