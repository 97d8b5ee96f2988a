/- Classes: what the program says and what the specification says, and that these are one. -/
import Derived.Test.YtkkfkbcdcdifdaaGreatDoorClsL
import Derived.Test.YtkkfkbcdcdifdaaGreatDoorClsH
import Derived.Test.YtkkfkbcdcdifdaaGreatDoorClsM
import Derived.Test.YtkkfkbcdcdifdaaGreatDoorMethE
import Derived.Test.YtkkfkbcdcdifdaaGreatDoorClsC
import Derived.Test.YtkkfkbcdcdifdaaGreatDoorMethH
namespace Go.Proofs.YtkkfkbcdcdifdaaGreatDoor
set_option linter.unusedVariables false
open Go.Maps Go.WideMaps
open Go.ChangeShapes Go.WideShapes Go.ChangeAt Go.RowKit

theorem and_le27 (X : BitVec 64) : (X &&& BitVec.ofInt 64 27).toNat ≤ 27 := by
  rw [BitVec.toNat_and]
  exact Nat.le_trans Nat.and_le_right (by decide)
theorem flag_same27 (f : Int) (h1 : -9223372036854775808 ≤ f) (h2 : f < 9223372036854775808) : sumB f 27 = flagB f 27 ∧ (sumB f 27 = true → 0 ≤ f ∧ f ≤ 27) := by
  have ea : bits .and .i64 f 27 = IntKind.i64.wrap ((BitVec.ofInt 64 f &&& BitVec.ofInt 64 27).toNat : Nat) := rfl
  have en : bits .andNot .i64 f 27 = IntKind.i64.wrap ((BitVec.ofInt 64 f &&& ~~~BitVec.ofInt 64 27).toNat : Nat) := rfl
  have hX : ((BitVec.ofInt 64 f).toNat : Int) = f % 18446744073709551616 := by
    rw [BitVec.toNat_ofInt]; omega
  obtain ⟨X, hXe⟩ : ∃ X, X = BitVec.ofInt 64 f := ⟨_, rfl⟩
  rw [← hXe] at ea en hX
  have hle := and_le27 X
  rw [wrap_small _ (by omega)] at ea
  by_cases h0 : X &&& ~~~BitVec.ofInt 64 27 = 0#64
  · have hXG : X &&& BitVec.ofInt 64 27 = X := by
      apply BitVec.eq_of_getLsbD_eq
      intro i hi
      have hb := congrArg (fun b : BitVec 64 => b.getLsbD i) h0
      simp only [BitVec.getLsbD_and, BitVec.getLsbD_not, BitVec.getLsbD_zero, hi, decide_true, Bool.true_and] at hb ⊢
      revert hb
      cases X.getLsbD i <;> cases (BitVec.ofInt 64 27).getLsbD i <;> simp
    rw [hXG] at ea hle
    have hf : 0 ≤ f ∧ f ≤ 27 := by omega
    have hs : sumB f 27 = true := by unfold sumB; rw [en, h0]; rfl
    have hg : flagB f 27 = true := by
      unfold flagB
      rw [ea, decide_eq_true hf.1, Bool.true_and, beq_iff_eq]
      omega
    exact ⟨by rw [hs, hg], fun _ => hf⟩
  · have hs : sumB f 27 = false := by
      unfold sumB
      rw [en]
      apply beq_false_of_ne
      intro hz
      exact h0 (BitVec.eq_of_toNat_eq (by rw [wrap_zero _ (BitVec.isLt _) hz]; rfl))
    refine ⟨?_, fun h => by rw [hs] at h; cases h⟩
    rw [hs]
    cases hg : flagB f 27 with
    | false => rfl
    | true =>
      exfalso
      unfold flagB at hg
      rw [Bool.and_eq_true, decide_eq_true_eq, beq_iff_eq, ea] at hg
      have hXG : X &&& BitVec.ofInt 64 27 = X := BitVec.eq_of_toNat_eq (by omega)
      apply h0
      rw [← hXG, BitVec.and_assoc, BitVec.and_not_self]
      simp


theorem and_le390 (X : BitVec 64) : (X &&& BitVec.ofInt 64 390).toNat ≤ 390 := by
  rw [BitVec.toNat_and]
  exact Nat.le_trans Nat.and_le_right (by decide)
theorem flag_same390 (f : Int) (h1 : -9223372036854775808 ≤ f) (h2 : f < 9223372036854775808) : sumB f 390 = flagB f 390 ∧ (sumB f 390 = true → 0 ≤ f ∧ f ≤ 390) := by
  have ea : bits .and .i64 f 390 = IntKind.i64.wrap ((BitVec.ofInt 64 f &&& BitVec.ofInt 64 390).toNat : Nat) := rfl
  have en : bits .andNot .i64 f 390 = IntKind.i64.wrap ((BitVec.ofInt 64 f &&& ~~~BitVec.ofInt 64 390).toNat : Nat) := rfl
  have hX : ((BitVec.ofInt 64 f).toNat : Int) = f % 18446744073709551616 := by
    rw [BitVec.toNat_ofInt]; omega
  obtain ⟨X, hXe⟩ : ∃ X, X = BitVec.ofInt 64 f := ⟨_, rfl⟩
  rw [← hXe] at ea en hX
  have hle := and_le390 X
  rw [wrap_small _ (by omega)] at ea
  by_cases h0 : X &&& ~~~BitVec.ofInt 64 390 = 0#64
  · have hXG : X &&& BitVec.ofInt 64 390 = X := by
      apply BitVec.eq_of_getLsbD_eq
      intro i hi
      have hb := congrArg (fun b : BitVec 64 => b.getLsbD i) h0
      simp only [BitVec.getLsbD_and, BitVec.getLsbD_not, BitVec.getLsbD_zero, hi, decide_true, Bool.true_and] at hb ⊢
      revert hb
      cases X.getLsbD i <;> cases (BitVec.ofInt 64 390).getLsbD i <;> simp
    rw [hXG] at ea hle
    have hf : 0 ≤ f ∧ f ≤ 390 := by omega
    have hs : sumB f 390 = true := by unfold sumB; rw [en, h0]; rfl
    have hg : flagB f 390 = true := by
      unfold flagB
      rw [ea, decide_eq_true hf.1, Bool.true_and, beq_iff_eq]
      omega
    exact ⟨by rw [hs, hg], fun _ => hf⟩
  · have hs : sumB f 390 = false := by
      unfold sumB
      rw [en]
      apply beq_false_of_ne
      intro hz
      exact h0 (BitVec.eq_of_toNat_eq (by rw [wrap_zero _ (BitVec.isLt _) hz]; rfl))
    refine ⟨?_, fun h => by rw [hs] at h; cases h⟩
    rw [hs]
    cases hg : flagB f 390 with
    | false => rfl
    | true =>
      exfalso
      unfold flagB at hg
      rw [Bool.and_eq_true, decide_eq_true_eq, beq_iff_eq, ea] at hg
      have hXG : X &&& BitVec.ofInt 64 390 = X := BitVec.eq_of_toNat_eq (by omega)
      apply h0
      rw [← hXG, BitVec.and_assoc, BitVec.and_not_self]
      simp


def flagFacts390 (n : Nat) : Bool := hasB n 260 == (hasB n 4 || hasB n 256)
theorem flags390_all : (List.range 391).all flagFacts390 = true := by kernel_rfl
theorem flag390_facts {f : Int} (h0 : 0 ≤ f) (h1 : f ≤ 390) : hasB f 260 = (hasB f 4 || hasB f 256) := by
  have h := List.all_eq_true.1 flags390_all f.toNat (List.mem_range.2 (by omega))
  unfold flagFacts390 at h
  rw [show ((f.toNat : Nat) : Int) = f by omega] at h
  exact eq_of_beq h

def isObj (s : ByteArray) : Bool := s.toList == [79, 98, 106, 101, 99, 116]
def superB (x : ClassL) : Bool := if isObj x.name then x.super.toList == [] else nameS x.super
def ifsB (x : ClassL) : Bool := decide ((x.ifs.length : Int) ≤ 40) && (x.ifs.all nameS && decide ((x.ifs.map strLit).Nodup))
def permsB (x : ClassL) : Bool := !(decide ((40 : Int) < x.perms.length) || (hasB x.flags 256 != decide ((0 : Int) < x.perms.length))) && (x.perms.all nameS && ascFrom none x.perms)
def membsB (x : ClassL) : Bool := !(decide ((40 : Int) < x.fields.length) || decide ((40 : Int) < x.meths.length)) && (x.fields.all fieldI && (x.meths.all methI && (decide ((x.fields.map fieldKey).Nodup) && decide ((x.meths.map methKey).Nodup))))
def agreeB (x : ClassL) : Bool := !(hasB x.flags 2 && (hasB x.flags 4 || hasB x.flags 256)) && (hasB x.flags 4 || x.meths.all wholeM)
def faceB (x : ClassL) : Bool := !hasB x.flags 128 || (hasB x.flags 4 && (isObj x.super && (x.fields.all constF && x.meths.all openQ)))
/-- What the program says of a class. -/
def classI (x : ClassL) : Bool := nameS x.name && (superB x && (sumB x.flags 390 && (ifsB x && (permsB x && (membsB x && (agreeB x && faceB x))))))

/-- What the specification says of a class. -/
def classS (x : ClassL) : Bool :=
  !(!nameS x.name || (((x.super.toList == []) != isObj x.name) || (!(x.super.toList == []) && !nameS x.super))) &&
  (!(!namesB x.ifs || (!namesB x.perms || (!flagB x.flags 390 || (hasB x.flags 256 != decide ((0 : Int) < x.perms.length))))) &&
  (ascFrom none x.perms && (!(hasB x.flags 2 && hasB x.flags 260) && (!(hasB x.flags 128 && (!hasB x.flags 4 || !isObj x.super)) && (fieldsS x.flags x.fields && methsS x.flags x.meths)))))

theorem all_and {α : Type} (p q : α → Bool) : ∀ xs : List α, (xs.all fun x => p x && q x) = (xs.all p && xs.all q)
  | [] => rfl
  | x :: r => by
    simp only [List.all_cons, all_and p q r]
    cases p x <;> cases q x <;> cases r.all p <;> cases r.all q <;> rfl
theorem all_or {α : Type} (b : Bool) (q : α → Bool) (xs : List α) : (xs.all fun x => b || q x) = (b || xs.all q) := by
  cases b
  · simp
  · simp
theorem all_congr {α : Type} {p q : α → Bool} {xs : List α} (h : ∀ x ∈ xs, p x = q x) : xs.all p = xs.all q := by
  induction xs with
  | nil => rfl
  | cons x r ih => simp only [List.all_cons, h x (by simp), ih fun y hy => h y (by simp [hy])]
theorem int_beq3 (f : Int) : (f == 3) = decide (f = 3) := rfl
theorem nameS_nil {s : ByteArray} (h : (s.toList == []) = true) : nameS s = false := by
  unfold nameS
  rw [ByteArray.toList_eq, beq_iff_eq] at h
  rw [h]
  rfl
theorem class_same (x : ClassL) (h1 : -9223372036854775808 ≤ x.flags) (h2 : x.flags < 9223372036854775808) (hf : ∀ y ∈ x.fields, -9223372036854775808 ≤ y.flags ∧ y.flags < 9223372036854775808) (hm : ∀ y ∈ x.meths, -9223372036854775808 ≤ y.flags ∧ y.flags < 9223372036854775808) : classS x = classI x := by
  have eF : (x.fields.all (fieldS x.flags)) = (x.fields.all fieldI && (!hasB x.flags 128 || x.fields.all constF)) := by
    rw [← all_or, ← all_and]
    refine all_congr fun y hy => ?_
    unfold fieldS fieldI constF nameS
    rw [(flag_same27 y.flags (hf y hy).1 (hf y hy).2).1]
    cases nameOk y.name.data.toList <;> cases typeL y.ty.data.toList <;> cases flagB y.flags 27 <;> cases hasB y.flags 2 <;> cases hasB y.flags 16 <;> cases hasB x.flags 128 <;> cases y.flags == 3 <;> rfl
  have eM : (x.meths.all (methC x.flags)) = (x.meths.all methI && ((hasB x.flags 4 || x.meths.all wholeM) && (!hasB x.flags 128 || x.meths.all openQ))) := by
    rw [← all_or, ← all_or, ← all_and, ← all_and]
    refine all_congr fun y hy => ?_
    unfold methC wholeM openQ
    rw [method_same y (hm y hy).1 (hm y hy).2]
    cases methI y <;> cases hasB y.flags 4 <;> cases hasB x.flags 4 <;> cases hasB x.flags 128 <;> cases (y.name.toList == [110, 101, 119]) <;> cases hasB y.flags 34 <;> rfl
  have eP : (namesB x.perms && ascFrom none x.perms) = (!decide ((40 : Int) < x.perms.length) && (x.perms.all nameS && ascFrom none x.perms)) := by
    unfold namesB
    rw [fresh_nil]
    cases ha : ascFrom none x.perms
    · simp
    · rw [decide_eq_true (asc_nodup _ _ ha)]; simp
  have eI : namesB x.ifs = ifsB x := by
    unfold namesB ifsB
    rw [fresh_nil]
    congr 1
    rw [← decide_not]; apply decide_eq_decide.2; omega
  have e3 := flag_same390 x.flags h1 h2
  have hnil : (x.super.toList == []) = true → nameS x.super = false := fun h => nameS_nil h
  unfold classS classI fieldsS methsS superB permsB membsB agreeB faceB
  rw [fresh_nil, fresh_nil, eF, eM, eI, ← e3.1]
  have e4 : sumB x.flags 390 = true → hasB x.flags 260 = (hasB x.flags 4 || hasB x.flags 256) := fun h => flag390_facts (e3.2 h).1 (e3.2 h).2
  generalize hasB x.flags 260 = f260 at *
  generalize hasB x.flags 256 = f256 at *
  generalize hasB x.flags 128 = f128 at *
  generalize hasB x.flags 4 = f4 at *
  generalize hasB x.flags 2 = f2 at *
  generalize sumB x.flags 390 = sm at *
  generalize nameS x.name = nm at *
  generalize nameS x.super = ns at *
  generalize (x.super.toList == []) = se at *
  generalize isObj x.name = on at *
  generalize isObj x.super = os at *
  generalize ifsB x = ib at *
  generalize namesB x.perms = pn at *
  generalize ascFrom none x.perms = pa at *
  generalize x.perms.all nameS = pl at *
  generalize decide ((40 : Int) < x.perms.length) = p40 at *
  generalize decide ((0 : Int) < x.perms.length) = p0 at *
  generalize decide ((40 : Int) < x.fields.length) = l40 at *
  generalize decide ((40 : Int) < x.meths.length) = m40 at *
  generalize decide ((x.fields.map fieldKey).Nodup) = fn at *
  generalize decide ((x.meths.map methKey).Nodup) = mn at *
  generalize x.fields.all fieldI = fi at *
  generalize x.fields.all constF = fc at *
  generalize x.meths.all methI = mi at *
  generalize x.meths.all wholeM = mw at *
  generalize x.meths.all openQ = mo at *
  clear e3 eI eF eM
  cases nm
  · rfl
  cases sm
  · cases se <;> cases on <;> cases ns <;> cases ib <;> cases pn <;> simp
  rw [e4 rfl]
  clear e4
  have hsup : (!(!true || ((se != on) || (!se && !ns)))) = (if on = true then se else ns) := by
    cases se <;> cases on <;> cases ns <;> first | rfl | (exact absurd (hnil rfl) (by decide)) | simp_all
  rw [hsup]
  clear hsup hnil
  generalize (if on = true then se else ns) = su
  cases su
  · rfl
  cases ib
  · rfl
  simp only [Bool.true_and, Bool.not_true, Bool.false_or]
  cases hpp : (pn && pa)
  · rw [hpp] at eP
    cases pn
    · revert eP
      cases p40 <;> cases pl <;> cases pa <;> first | (intro h; exact absurd h (by decide)) | (intro _; simp)
    · cases pa
      · simp
      · cases hpp
  · rw [hpp] at eP
    rw [Bool.and_eq_true] at hpp
    obtain ⟨rfl, rfl⟩ := hpp
    have hp40 : p40 = false := by cases p40 <;> simp_all
    have hpl : pl = true := by cases pl <;> simp_all
    subst hp40 hpl
    clear eP
    cases f256 <;> cases p0 <;> cases f2 <;> cases f4 <;> cases f128 <;> cases os <;> cases l40 <;> cases m40 <;> simp <;> cases fi <;> cases mi <;> cases fn <;> cases mn <;> simp <;> cases fc <;> cases mw <;> cases mo <;> rfl
end Go.Proofs.YtkkfkbcdcdifdaaGreatDoor

/- What both sides answer on every class. -/
namespace Go.Proofs.YtkkfkbcdcdifdaaGreatDoor
set_option linter.unusedVariables false
open Go.ChangeShapes Go.WideShapes Go.ChangeAt Go.RowKit

theorem strs_same {lo hi lo' hi' : Nat} {w : World} {v : Value} {xs ys : List ByteArray} (h : ListAt StrR 1 true lo hi w v xs) (k : ListAt StrR 1 true lo' hi' w v ys) : xs = ys := by
  obtain ⟨a, c, hv⟩ := h.form
  obtain ⟨a', c', hv'⟩ := k.form
  subst hv
  injection hv' with e1 e2 e3
  subst e1 e3
  rw [e2] at h
  apply List.ext_getElem e2
  intro j h1 h2
  obtain ⟨b, off, hb, hc⟩ := h.strAt j h1
  obtain ⟨b', off', hb', hc'⟩ := k.strAt j h2
  rw [hb] at hb'
  obtain ⟨rfl, rfl⟩ : b = b' ∧ off = off' := by simpa using hb'
  rw [hc] at hc'
  simpa using hc'

/-- Every number is one of 64 bits. -/
def ClassL.wide (x : ClassL) : Prop := (-9223372036854775808 ≤ x.flags ∧ x.flags < 9223372036854775808) ∧ (∀ y ∈ x.fields, -9223372036854775808 ≤ y.flags ∧ y.flags < 9223372036854775808) ∧ (∀ y ∈ x.meths, -9223372036854775808 ≤ y.flags ∧ y.flags < 9223372036854775808) ∧ ∀ y ∈ x.meths, ∀ z ∈ y.code, z.wide

set_option maxRecDepth 1000000 in
set_option maxHeartbeats 1000000 in
theorem implClass_calls (x : ClassL) (w : World) (row : List Value) (lo hi : Nat) (hh : hi ≤ w.heap.size) (hx : ClassR true lo hi w row x) (hy : x.small) (hw : x.wide) (he : EnvOk w) :
    Calls Tryz.prog 13 #[.agg row.toArray] w fun e w' => e = .returned (.bool (classI x)) ∧ Below w.heap.size w w' := by
  obtain ⟨p, q, s, t, rfl, hp, hq, hs, ht⟩ := hx
  obtain ⟨hN, hS, ⟨hc0, hc1⟩, ⟨hd0, hd1⟩, ⟨hf0, hf1⟩, ⟨hm0, hm1⟩⟩ := hy
  obtain ⟨a1, c1, rfl⟩ := hp.form
  obtain ⟨a2, c2, rfl⟩ := hq.form
  obtain ⟨a3, c3, rfl⟩ := hs.form
  obtain ⟨a4, c4, rfl⟩ := ht.form
  have kp : ∀ W, Below w.heap.size w W → ListAt StrR 1 true lo hi W _ x.ifs := fun W hW => hp.1.kept StrR.stable (Nat.le_refl _) (Nat.le_refl _) ((Same.below hW).mono (Nat.zero_le _) hh)
  have kq : ∀ W, Below w.heap.size w W → ListAt StrR 1 true lo hi W _ x.perms := fun W hW => hq.1.kept StrR.stable (Nat.le_refl _) (Nat.le_refl _) ((Same.below hW).mono (Nat.zero_le _) hh)
  have ks : ∀ W, Below w.heap.size w W → ListAt FieldR 3 true lo hi W _ x.fields := fun W hW => hs.kept FieldR.stable (Nat.le_refl _) (Nat.le_refl _) ((Same.below hW).mono (Nat.zero_le _) hh)
  have kt : ∀ W, Below w.heap.size w W → ListAt MethR 9 true lo hi W _ x.meths := fun W hW => ht.kept MethR.stable (Nat.le_refl _) (Nat.le_refl _) ((Same.below hW).mono (Nat.zero_le _) hh)
  refine classWalk x.name x.super x.flags a1 _ c1 a2 _ c2 a3 _ c3 a4 _ c4 _ _ _ _ _ _ _ _ w
    (fun W hW => implName_below x.name W (by omega))
    (fun W hW => superOk_walk x.name x.super x.flags a1 _ c1 a2 _ c2 a3 _ c3 a4 _ c4 (nameS x.super) W (fun V hV => implName_below x.super V (by omega)))
    (fun W hW => (sumOf_calls x.flags 390 W).mono (by rintro e w' ⟨rfl, rfl⟩; exact ⟨rfl, Below.refl _ _⟩))
    (fun W hW => interfacesOk_walk x.name x.super x.flags a1 _ c1 a2 _ c2 a3 _ c3 a4 _ c4 _ _ W
      (fun V hV => allName_calls _ x.ifs V lo hi (Nat.le_trans hh (below_on2 hW hV).size) (kp V (below_on2 hW hV)) hc0 hc1)
      (fun V hV => differS_calls _ x.ifs V lo hi (Nat.le_trans hh (below_on2 hW hV).size) (kp V (below_on2 hW hV)) hc0 hc1))
    (fun W hW => permitsOk_walk x.name x.super x.flags a1 _ c1 a2 _ c2 a3 _ c3 a4 _ c4 _ _ W
      (fun V hV => allName_calls _ x.perms V lo hi (Nat.le_trans hh (below_on2 hW hV).size) (kq V (below_on2 hW hV)) hd0 hd1)
      (fun V hV => (ascending_calls _ x.perms V lo hi (kq V (below_on2 hW hV)) hd0).mono (by rintro e w' ⟨rfl, rfl⟩; exact ⟨rfl, Below.refl _ _⟩)))
    (fun W hW => membersOk_walk x.name x.super x.flags a1 _ c1 a2 _ c2 a3 _ c3 a4 _ c4 _ _ _ _ W
      (fun V hV => allFieldOk_calls fieldI _ x.fields V lo hi (Nat.le_trans hh (below_on2 hW hV).size) (ks V (below_on2 hW hV)) hf0 (fun y hy U row hU hr => fieldOk_calls y U row lo hi hr (hf1 y hy)))
      (fun V hV => allMethOk_calls methI _ x.meths V lo hi (Nat.le_trans hh (below_on2 hW hV).size) (kt V (below_on2 hW hV)) hm0 (fun y hy U row hU hr => implMethod_calls y U row lo hi (Nat.le_trans hh (below_on2 (below_on2 hW hV) hU).size) hr (hm1 y hy) (hw.2.2.2 y hy) (he.kept (below_on2 (below_on2 hW hV) hU))))
      (fun V hV => differF_calls _ x.fields V lo hi (Nat.le_trans hh (below_on2 hW hV).size) (ks V (below_on2 hW hV)) hf0 hf1)
      (fun V hV => differM_calls _ x.meths V lo hi (Nat.le_trans hh (below_on2 hW hV).size) (kt V (below_on2 hW hV)) hm0 hm1))
    (fun W hW => flagsAgree_walk x.name x.super x.flags a1 _ c1 a2 _ c2 a3 _ c3 a4 _ c4 _ W
      (fun V hV => allWhole_calls wholeM _ x.meths V lo hi (Nat.le_trans hh (below_on2 hW hV).size) (kt V (below_on2 hW hV)) hm0 (fun y hy U row hU hr => wholeM_calls y U row lo hi hr)))
    (fun W hW => interfaceOk_walk x.name x.super x.flags a1 _ c1 a2 _ c2 a3 _ c3 a4 _ c4 _ _ W
      (fun V hV => allConst_calls constF _ x.fields V lo hi (Nat.le_trans hh (below_on2 hW hV).size) (ks V (below_on2 hW hV)) hf0 (fun y hy U row hU hr => constF_calls y U row lo hi hr))
      (fun V hV => allOpen_calls openQ _ x.meths V lo hi (Nat.le_trans hh (below_on2 hW hV).size) (kt V (below_on2 hW hV)) hm0 (fun y hy U row hU hr => openQ_calls y U row lo hi hr)))

open Classical in
set_option maxRecDepth 1000000 in
set_option maxHeartbeats 1000000 in
theorem specClass_calls (x : ClassL) (w : World) (row : List Value) (lo hi : Nat) (hh : hi ≤ w.heap.size) (hx : ClassR true lo hi w row x) (hy : x.small) :
    Calls Tryz.prog 11 #[.agg row.toArray] w fun e w' => e = .returned (.bool (classS x)) ∧ Below w.heap.size w w' := by
  obtain ⟨p, q, s, t, rfl, hp, hq, hs, ht⟩ := hx
  obtain ⟨hN, hS, ⟨hc0, hc1⟩, ⟨hd0, hd1⟩, ⟨hf0, hf1⟩, ⟨hm0, hm1⟩⟩ := hy
  have hsame : p = q → namesB x.ifs = namesB x.perms := fun e => by
    subst e
    rw [strs_same hp.1 hq.1]
  obtain ⟨a1, c1, rfl⟩ := hp.form
  obtain ⟨a2, c2, rfl⟩ := hq.form
  obtain ⟨a3, c3, rfl⟩ := hs.form
  obtain ⟨a4, c4, rfl⟩ := ht.form
  have e1 : (if Value.slice a1 x.ifs.length c1 = .slice a1 x.ifs.length c1 then namesB x.ifs else namesB x.perms) = namesB x.ifs := if_pos rfl
  have e2 : (if Value.slice a2 x.perms.length c2 = .slice a1 x.ifs.length c1 then namesB x.ifs else namesB x.perms) = namesB x.perms := by
    by_cases h : Value.slice a2 x.perms.length c2 = .slice a1 x.ifs.length c1
    · rw [if_pos h]; exact hsame h.symm
    · rw [if_neg h]
  have key := specClass_walk x.name x.super x.flags a1 _ c1 a2 _ c2 a3 _ c3 a4 _ c4 w nameS (fun v => if v = .slice a1 x.ifs.length c1 then namesB x.ifs else namesB x.perms) (flagB x.flags 390) (fieldsS x.flags x.fields) (methsS x.flags x.meths) x.perms lo hi hh hN hS hd0 rfl hq.1
    (fun s W hs => specName_calls s W (by omega))
    (fun v W hv hW => by
      rcases hv with rfl | rfl
      · show Calls Tryz.prog 45 #[_] W fun e w' => e = .returned (.bool (if Value.slice a1 x.ifs.length c1 = .slice a1 x.ifs.length c1 then namesB x.ifs else namesB x.perms)) ∧ _
        rw [e1]
        exact l2Names_calls _ x.ifs W lo hi (hp.kept StrR.stable (Nat.le_refl _) (Nat.le_refl _) ((Same.below hW).mono (Nat.zero_le _) hh)) hc0 hc1
      · show Calls Tryz.prog 45 #[_] W fun e w' => e = .returned (.bool (if Value.slice a2 x.perms.length c2 = .slice a1 x.ifs.length c1 then namesB x.ifs else namesB x.perms)) ∧ _
        rw [e2]
        exact l2Names_calls _ x.perms W lo hi (hq.kept StrR.stable (Nat.le_refl _) (Nat.le_refl _) ((Same.below hW).mono (Nat.zero_le _) hh)) hd0 hd1)
    (fun W => l2Flags_calls x.flags 390 W)
    (fun W hW => l2FieldsOk_walk x.name x.super x.flags a1 _ c1 a2 _ c2 a3 _ c3 a4 _ c4 W x.fields lo hi (Nat.le_trans hh hW.size) (hs.kept FieldR.stable (Nat.le_refl _) (Nat.le_refl _) ((Same.below hW).mono (Nat.zero_le _) hh)) rfl hf0 hf1)
    (fun W hW => l2MethodsOk_walk x.name x.super x.flags a1 _ c1 a2 _ c2 a3 _ c3 a4 _ c4 W x.meths lo hi (Nat.le_trans hh hW.size) (ht.kept MethR.stable (Nat.le_refl _) (Nat.le_refl _) ((Same.below hW).mono (Nat.zero_le _) hh)) rfl hm0 hm1)
  rw [e1, e2] at key
  exact key
end Go.Proofs.YtkkfkbcdcdifdaaGreatDoor

/- The law of ClassOk, walked. -/
namespace Go.Proofs.YtkkfkbcdcdifdaaGreatDoor
set_option linter.unusedVariables false
open Go.ChangeShapes Go.WideShapes Go.ChangeAt Go.RowKit

theorem ClassR.shape {own : Bool} {lo hi : Nat} {w : World} {row : List Value} {x : ClassL} (h : ClassR own lo hi w row x) : ∃ a1 c1 a2 c2 a3 c3 a4 c4, row = [.string x.name, .string x.super, .slice a1 x.ifs.length c1, .int .i64 x.flags, .slice a2 x.perms.length c2, .slice a3 x.fields.length c3, .slice a4 x.meths.length c4] := by
  obtain ⟨p, q, s, t, rfl, hp, hq, hs, ht⟩ := h
  obtain ⟨a1, c1, rfl⟩ := hp.form
  obtain ⟨a2, c2, rfl⟩ := hq.form
  obtain ⟨a3, c3, rfl⟩ := hs.form
  obtain ⟨a4, c4, rfl⟩ := ht.form
  exact ⟨a1, c1, a2, c2, a3, c3, a4, c4, rfl⟩

set_option maxRecDepth 1000000 in
set_option maxHeartbeats 4000000 in
theorem lawClass_calls (x : ClassL) (row : List Value) (w : World) (hx : ClassR false 0 w.heap.size w row x) (hu : x.upto) (hw : x.wide) (he : EnvOk w) :
    Calls Tryz.prog 4 #[.agg row.toArray] w fun e w' => e = .returned (.bool true) ∧ Below w.heap.size w w' := by
  have inH : Hid (∀ W, Below w.heap.size w W → ClassR false 0 w.heap.size W row x) := fun W hW => ClassR.stable _ _ _ _ _ _ _ _ _ hx (Nat.le_refl _) (Nat.le_refl _) (Same.below hW)
  have szH : Hid (∀ W, Below w.heap.size w W → Calls Tryz.prog 10 #[.agg row.toArray, .int .i64 1048576] W fun e w' => SzQ 1048576 x.sz e ∧ Below W.heap.size W w') := fun W hW => szClass_calls x hu W row false 0 w.heap.size 1048576 hW.size (inH.out W hW) (by obtain ⟨_, _, _, _, _, _, _, _, rfl⟩ := hx.shape; rfl) (by omega) (by omega)
  have toH : Hid (x.small → ∀ W, Below w.heap.size w W → Calls Tryz.prog 12 #[.agg row.toArray] W fun e w' => ∃ row' : List Value, e = .returned (.agg row'.toArray) ∧ ClassR true W.heap.size w'.heap.size w' row' x ∧ Below W.heap.size W w') := fun hs W hW =>
    (toClass_calls x w.heap.size hs W row hW.size (inH.out W hW) (by obtain ⟨_, _, _, _, _, _, _, _, rfl⟩ := hx.shape; rfl)).mono (by rintro e w' ⟨row', rfl, _, _, hr, hb⟩; exact ⟨row', rfl, hr, hb⟩)
  have spH : Hid (x.small → ∀ W r lo hi, hi ≤ W.heap.size → ClassR true lo hi W r x → Calls Tryz.prog 11 #[.agg r.toArray] W fun e w' => e = .returned (.bool (classI x)) ∧ Below W.heap.size W w') := fun hs W r lo hi hh hr => by
    have := specClass_calls x W r lo hi hh hr hs
    rwa [class_same x hw.1.1 hw.1.2 hw.2.1 hw.2.2.1] at this
  have imH : Hid (x.small → ∀ W r lo hi, hi ≤ W.heap.size → Below w.heap.size w W → ClassR true lo hi W r x → Calls Tryz.prog 13 #[.agg r.toArray] W fun e w' => e = .returned (.bool (classI x)) ∧ Below W.heap.size W w') := fun hs W r lo hi hh hW hr => implClass_calls x W r lo hi hh hr hs hw (he.kept hW)
  have eqH : Hid (x.small → ∀ W r1 r2 lo1 hi1 lo2 hi2, hi1 ≤ W.heap.size → hi2 ≤ W.heap.size → ClassR true lo1 hi1 W r1 x → ClassR true lo2 hi2 W r2 x → Calls Tryz.prog 14 #[.agg r1.toArray, .agg r2.toArray] W fun e w' => e = .returned (.bool true) ∧ Below W.heap.size W w') := fun hs W r1 r2 lo1 hi1 lo2 hi2 g1 g2 q1 q2 =>
    eqClass_calls x hs W r1 r2 lo1 hi1 lo2 hi2 g1 g2 q1 q2 (by obtain ⟨_, _, _, _, _, _, _, _, rfl⟩ := q1.shape; rfl) (by obtain ⟨_, _, _, _, _, _, _, _, rfl⟩ := q2.shape; rfl)
  generalize classI x = mb at *
  obtain ⟨a1, c1, a2, c2, a3, c3, a4, c4, rfl⟩ := hx.shape
  clear hx hu hw he inH
  go_enter Tryz.func4, Tryz.ntmps4
  go_wp2_with fail
  obtain ⟨W0, hW0⟩ : ∃ W : World, W = w.alloc (.cells #[.string x.name, .string x.super, .slice a1 x.ifs.length c1, .int .i64 x.flags, .slice a2 x.perms.length c2, .slice a3 x.fields.length c3, .slice a4 x.meths.length c4] 43) := ⟨_, rfl⟩
  rw [← hW0]
  have r0 : Hid (Rec1 w W0 [.string x.name, .string x.super, .slice a1 x.ifs.length c1, .int .i64 x.flags, .slice a2 x.perms.length c2, .slice a3 x.fields.length c3, .slice a4 x.meths.length c4]) := Rec1.start hW0
  clear hW0
  refine (szH.out _ r0.out.hb).mono ?_
  rintro e w1 ⟨⟨r, rfl, hr1, hr2⟩, hb1⟩
  have r1 : Hid (Rec1 w w1 [.string x.name, .string x.super, .slice a1 x.ifs.length c1, .int .i64 x.flags, .slice a2 x.perms.length c2, .slice a3 x.fields.length c3, .slice a4 x.meths.length c4]) := r0.out.call hb1
  clear hb1
  by_cases hbig : (1048576 : Int) < x.sz
  · obtain rfl := hr1 hbig
    go_wp2
    go_ret
    exact ⟨rfl, r1.out.hb⟩
  obtain rfl := hr2 (by omega)
  have hsm : x.small := ClassL.small_of_sz (by omega)
  have toH2 := toH.out hsm
  have spH2 := spH.out hsm
  have imH2 := imH.out hsm
  have eqH2 := eqH.out hsm
  have toK : Hid (∀ W, Below w.heap.size w W → Calls Tryz.prog 12 #[.agg #[.string x.name, .string x.super, .slice a1 x.ifs.length c1, .int .i64 x.flags, .slice a2 x.perms.length c2, .slice a3 x.fields.length c3, .slice a4 x.meths.length c4]] W fun e w' => ∃ row' : List Value, e = .returned (.agg row'.toArray) ∧ ClassR true W.heap.size w'.heap.size w' row' x ∧ Below W.heap.size W w') := toH2
  have spK := (show Hid _ from spH2)
  have imK := (show Hid _ from imH2)
  have eqK := (show Hid _ from eqH2)
  have hpos : (0 : Int) ≤ 1048576 - x.sz := by omega
  clear toH spH imH eqH toH2 spH2 imH2 eqH2 hr1 hr2 szH hsm
  have y0 := r1.out.cell 0 _ rfl
  have y1 := r1.out.cell 1 _ rfl
  have y2 := r1.out.cell 2 _ rfl
  have y3 := r1.out.cell 3 _ rfl
  have y4 := r1.out.cell 4 _ rfl
  have y5 := r1.out.cell 5 _ rfl
  have y6 := r1.out.cell 6 _ rfl
  go_wp2_with fail
  refine (toK.out _ r1.out.hb).mono ?_
  rintro e w2 ⟨q2, rfl, m2, hb2⟩
  have r2 : Hid (Rec1 w w2 [.string x.name, .string x.super, .slice a1 x.ifs.length c1, .int .i64 x.flags, .slice a2 x.perms.length c2, .slice a3 x.fields.length c3, .slice a4 x.meths.length c4]) := r1.out.call hb2
  clear y0 y1 y2 y3 y4 y5 y6
  go_wp2_with fail
  refine (spK.out _ q2 _ _ (Nat.le_refl _) m2).mono ?_
  rintro e w3 ⟨rfl, hb3⟩
  have r3 : Hid (Rec1 w w3 [.string x.name, .string x.super, .slice a1 x.ifs.length c1, .int .i64 x.flags, .slice a2 x.perms.length c2, .slice a3 x.fields.length c3, .slice a4 x.meths.length c4]) := r2.out.call hb3
  clear hb2 hb3 m2
  have y0 := r3.out.cell 0 _ rfl
  have y1 := r3.out.cell 1 _ rfl
  have y2 := r3.out.cell 2 _ rfl
  have y3 := r3.out.cell 3 _ rfl
  have y4 := r3.out.cell 4 _ rfl
  have y5 := r3.out.cell 5 _ rfl
  have y6 := r3.out.cell 6 _ rfl
  go_wp2_with fail
  refine (toK.out _ r3.out.hb).mono ?_
  rintro e w4 ⟨q4, rfl, m4, hb4⟩
  have r4 : Hid (Rec1 w w4 [.string x.name, .string x.super, .slice a1 x.ifs.length c1, .int .i64 x.flags, .slice a2 x.perms.length c2, .slice a3 x.fields.length c3, .slice a4 x.meths.length c4]) := r3.out.call hb4
  clear y0 y1 y2 y3 y4 y5 y6
  obtain ⟨u1, d1, u2, d2, u3, d3, u4, d4, rfl⟩ := m4.shape
  have m4H : Hid (ClassR true w3.heap.size w4.heap.size w4 [.string x.name, .string x.super, .slice u1 x.ifs.length d1, .int .i64 x.flags, .slice u2 x.perms.length d2, .slice u3 x.fields.length d3, .slice u4 x.meths.length d4] x) := m4
  clear m4 hb4
  go_wp2_with fail
  have hBV : Below w.heap.size w (w4.alloc (.cells #[.string x.name, .string x.super, .slice u1 x.ifs.length d1, .int .i64 x.flags, .slice u2 x.perms.length d2, .slice u3 x.fields.length d3, .slice u4 x.meths.length d4] 49)) := below_on2 r4.out.hb (below_1 _ _)
  have rV : Hid (Rec1 w (w4.alloc (.cells #[.string x.name, .string x.super, .slice u1 x.ifs.length d1, .int .i64 x.flags, .slice u2 x.perms.length d2, .slice u3 x.fields.length d3, .slice u4 x.meths.length d4] 49)) [.string x.name, .string x.super, .slice a1 x.ifs.length c1, .int .i64 x.flags, .slice a2 x.perms.length c2, .slice a3 x.fields.length c3, .slice a4 x.meths.length c4]) := r4.out.call (below_1 _ _)
  refine (imK.out _ [.string x.name, .string x.super, .slice u1 x.ifs.length d1, .int .i64 x.flags, .slice u2 x.perms.length d2, .slice u3 x.fields.length d3, .slice u4 x.meths.length d4] w3.heap.size w4.heap.size (by simp) hBV (ClassR.stable _ _ _ _ _ _ _ _ _ m4H.out (Nat.le_refl _) (Nat.le_refl _) ((Same.below (below_1 _ _)).mono (Nat.zero_le _) (Nat.le_refl _)))).mono ?_
  rintro e w5 ⟨rfl, hb5⟩
  have r5 : Hid (Rec1 w w5 [.string x.name, .string x.super, .slice a1 x.ifs.length c1, .int .i64 x.flags, .slice a2 x.perms.length c2, .slice a3 x.fields.length c3, .slice a4 x.meths.length c4]) := rV.out.call hb5
  have hb45 : Below w4.heap.size w4 w5 := below_on2 (below_1 _ _) hb5
  have m5K : Hid (∀ W, Below w5.heap.size w5 W → w4.heap.size ≤ W.heap.size ∧ ClassR true w3.heap.size w4.heap.size W [.string x.name, .string x.super, .slice u1 x.ifs.length d1, .int .i64 x.flags, .slice u2 x.perms.length d2, .slice u3 x.fields.length d3, .slice u4 x.meths.length d4] x) := fun W hW =>
    ⟨Nat.le_trans hb45.size hW.size, ClassR.stable _ _ _ _ _ _ _ _ _ m4H.out (Nat.le_refl _) (Nat.le_refl _) ((Same.below (below_on2 hb45 hW)).mono (Nat.zero_le _) (Nat.le_refl _))⟩
  have hX5 : w5.rangeAt w4.heap.size 0 [.string x.name, .string x.super, .slice u1 x.ifs.length d1, .int .i64 x.flags, .slice u2 x.perms.length d2, .slice u3 x.fields.length d3, .slice u4 x.meths.length d4] := rangeAt_same (Same.below hb5) (Nat.zero_le _) (by simp) (rangeAt_heap (heap_alloc_new w4 _))
  have hXlt : w4.heap.size < w5.heap.size := by have := hb5.size; simp at this; omega
  have hmk : Hid (∀ W, Below w5.heap.size w5 W → (Below w5.heap.size w5 W ∧ W.cell? ⟨w.heap.size, 0, none⟩ = some (.string x.name) ∧ W.cell? ⟨w.heap.size, 1, none⟩ = some (.string x.super) ∧ W.cell? ⟨w.heap.size, 2, none⟩ = some (.slice a1 x.ifs.length c1) ∧ W.cell? ⟨w.heap.size, 3, none⟩ = some (.int .i64 x.flags) ∧ W.cell? ⟨w.heap.size, 4, none⟩ = some (.slice a2 x.perms.length c2) ∧ W.cell? ⟨w.heap.size, 5, none⟩ = some (.slice a3 x.fields.length c3) ∧ W.cell? ⟨w.heap.size, 6, none⟩ = some (.slice a4 x.meths.length c4) ∧ W.cell? ⟨w4.heap.size, 0, none⟩ = some (.string x.name) ∧ W.cell? ⟨w4.heap.size, 1, none⟩ = some (.string x.super) ∧ W.cell? ⟨w4.heap.size, 2, none⟩ = some (.slice u1 x.ifs.length d1) ∧ W.cell? ⟨w4.heap.size, 3, none⟩ = some (.int .i64 x.flags) ∧ W.cell? ⟨w4.heap.size, 4, none⟩ = some (.slice u2 x.perms.length d2) ∧ W.cell? ⟨w4.heap.size, 5, none⟩ = some (.slice u3 x.fields.length d3) ∧ W.cell? ⟨w4.heap.size, 6, none⟩ = some (.slice u4 x.meths.length d4))) := fun W hW => by
    have rW := r5.out.call hW
    have kp := rangeAt_same (Same.below hW) (Nat.zero_le _) hXlt hX5
    simp only [World.rangeAt, Nat.zero_add] at kp
    exact ⟨hW, rW.cell 0 _ rfl, rW.cell 1 _ rfl, rW.cell 2 _ rfl, rW.cell 3 _ rfl, rW.cell 4 _ rfl, rW.cell 5 _ rfl, rW.cell 6 _ rfl, kp 0 _ rfl, kp 1 _ rfl, kp 2 _ rfl, kp 3 _ rfl, kp 4 _ rfl, kp 5 _ rfl, kp 6 _ rfl⟩
  have eqC : Hid (∀ (W : World) (lo : Nat) (q : List Value) (hi : Nat), Below w5.heap.size w5 W → ClassR true lo W.heap.size W q x → Calls Tryz.prog 14 #[.agg #[.string x.name, .string x.super, .slice u1 x.ifs.length d1, .int .i64 x.flags, .slice u2 x.perms.length d2, .slice u3 x.fields.length d3, .slice u4 x.meths.length d4], .agg q.toArray] W fun e w' => e = .returned (.bool true) ∧ Below W.heap.size W w') := fun W lo q hi hW hq => eqK.out W [.string x.name, .string x.super, .slice u1 x.ifs.length d1, .int .i64 x.flags, .slice u2 x.perms.length d2, .slice u3 x.fields.length d3, .slice u4 x.meths.length d4] q w3.heap.size w4.heap.size lo W.heap.size (m5K.out W hW).1 (Nat.le_refl _) (m5K.out W hW).2 hq
  have hxx : (mb != mb) = false := by simp
  obtain ⟨X, hXe⟩ : ∃ X, X = w4.heap.size := ⟨_, rfl⟩
  have hS0 := hmk.out w5 (Below.refl _ _)
  have hB5 : Hid (Below w.heap.size w w5) := r5.out.hb
  clear hBV rV hb5 hb45 hX5 hXlt r0 r1 r2 r3 r4 r5 spK imK hXe
  go_wp2
  go_region_held3 (fun W => Below w5.heap.size w5 W ∧ W.cell? ⟨w.heap.size, 0, none⟩ = some (.string x.name) ∧ W.cell? ⟨w.heap.size, 1, none⟩ = some (.string x.super) ∧ W.cell? ⟨w.heap.size, 2, none⟩ = some (.slice a1 x.ifs.length c1) ∧ W.cell? ⟨w.heap.size, 3, none⟩ = some (.int .i64 x.flags) ∧ W.cell? ⟨w.heap.size, 4, none⟩ = some (.slice a2 x.perms.length c2) ∧ W.cell? ⟨w.heap.size, 5, none⟩ = some (.slice a3 x.fields.length c3) ∧ W.cell? ⟨w.heap.size, 6, none⟩ = some (.slice a4 x.meths.length c4) ∧ W.cell? ⟨w4.heap.size, 0, none⟩ = some (.string x.name) ∧ W.cell? ⟨w4.heap.size, 1, none⟩ = some (.string x.super) ∧ W.cell? ⟨w4.heap.size, 2, none⟩ = some (.slice u1 x.ifs.length d1) ∧ W.cell? ⟨w4.heap.size, 3, none⟩ = some (.int .i64 x.flags) ∧ W.cell? ⟨w4.heap.size, 4, none⟩ = some (.slice u2 x.perms.length d2) ∧ W.cell? ⟨w4.heap.size, 5, none⟩ = some (.slice u3 x.fields.length d3) ∧ W.cell? ⟨w4.heap.size, 6, none⟩ = some (.slice u4 x.meths.length d4)) (first | assumption | exact hmk.out _ (Below.drew (And.left (by assumption))) | exact hmk.out _ (below_on2 (And.left (by assumption)) (by assumption))) (first | (go_at_call 12; refine (toK.out _ (below_on2 hB5.out (And.left (by assumption)))).mono ?_; rintro e7 w7 ⟨q7, rfl, m7, hb7⟩) | (go_at_call 14; refine (eqC.out w7 _ q7 0 (by first | assumption | exact And.left (by assumption) | exact below_on2 (And.left (by assumption)) (by assumption)) m7).mono ?_; rintro e9 w9 ⟨rfl, hb9⟩))
  go_wp2
  go_ret
  exact ⟨rfl, by first | exact below_on2 hB5.out (And.left (by assumption)) | exact below_on2 (below_on2 (below_on2 hB5.out (And.left (by assumption))) hb7) hb9 | trace_state⟩
end Go.Proofs.YtkkfkbcdcdifdaaGreatDoor

/- A class that came in, opened. -/
namespace Go.Proofs.YtkkfkbcdcdifdaaGreatDoor
set_option linter.unusedVariables false
open Go.ChangeShapes Go.WideShapes Go.ChangeAt Go.RowKit

theorem list7L {α : Type} {cs : List α} (h : cs.length = 7) : ∃ c0 c1 c2 c3 c4 c5 c6, cs = [c0, c1, c2, c3, c4, c5, c6] := by
  match cs, h with
  | [c0, c1, c2, c3, c4, c5, c6], _ => exact ⟨c0, c1, c2, c3, c4, c5, c6, rfl⟩
theorem cellsN40 : Tryz.prog.cellsOf 40 = 1 := by kernel_rfl
theorem cellsN41 : Tryz.prog.cellsOf 41 = 1 := by kernel_rfl

set_option maxRecDepth 1000000 in
theorem open_fieldE {H : Type} {enc : TypeId × Value → H} {W : World} {n : Nat} {cs : List Value} {z : DataW H × List MemPlace} (hl : cs.length = 3) (h : DataW.trod enc Tryz.prog W 0 (fun _ => true) true n 114 cs = some z) (hlt : ∀ p ∈ z.2, p.block < W.heap.size) :
    ∃ x : FieldL, FieldR false 0 W.heap.size W cs x ∧ (x.upto ∧ -9223372036854775808 ≤ x.flags ∧ x.flags < 9223372036854775808) := by
  obtain ⟨c0, c1, c2, rfl⟩ := list3L hl
  obtain ⟨xs, n', _, hx, _, hlen, hfld⟩ := DataW.trod_struct Tryz.underlying114 h
  obtain ⟨y0, y1, y2, rfl⟩ := list3L hlen
  have g0 : DataW.trod enc Tryz.prog W 0 (fun _ => true) true n' 9 [c0] = some y0 := by simpa [cellsN9] using hfld 0 _ rfl
  have g1 : DataW.trod enc Tryz.prog W 0 (fun _ => true) true n' 9 [c1] = some y1 := by simpa [cellsN9] using hfld 1 _ rfl
  have g2 : DataW.trod enc Tryz.prog W 0 (fun _ => true) true n' 2 [c2] = some y2 := by simpa [cellsN2, cellsN9] using hfld 2 _ rfl
  obtain ⟨s0, e0, -, t0⟩ := DataW.trod_string Tryz.underlying9 g0
  simp at e0
  subst e0
  unfold maxLen at t0
  obtain ⟨s1, e1, -, t1⟩ := DataW.trod_string Tryz.underlying9 g1
  simp at e1
  subst e1
  unfold maxLen at t1
  obtain ⟨i2, e2, -, w2⟩ := DataW.trod_int Tryz.underlying2 g2
  simp at e2
  subst e2
  have b2 := bounds_i64 w2
  exact ⟨⟨s0, s1, i2⟩, rfl, ⟨by show s0.size ≤ _; omega, by show s1.size ≤ _; omega⟩, by show _ ≤ i2; omega, by show i2 < _; omega⟩

set_option maxRecDepth 1000000 in
theorem open_classE {H : Type} {enc : TypeId × Value → H} {W : World} {n : Nat} {cs : List Value} {z : DataW H × List MemPlace} (hl : cs.length = 7) (h : DataW.trod enc Tryz.prog W 0 (fun _ => true) true n 43 cs = some z) (hlt : ∀ p ∈ z.2, p.block < W.heap.size) :
    ∃ x : ClassL, ClassR false 0 W.heap.size W cs x ∧ (x.upto ∧ x.wide) := by
  obtain ⟨c0, c1, c2, c3, c4, c5, c6, rfl⟩ := list7L hl
  obtain ⟨xs, n', _, hx, _, hlen, hfld⟩ := DataW.trod_struct Tryz.underlying43 h
  obtain ⟨y0, y1, y2, y3, y4, y5, y6, rfl⟩ := list7L hlen
  have g0 : DataW.trod enc Tryz.prog W 0 (fun _ => true) true n' 9 [c0] = some y0 := by simpa [cellsN9] using hfld 0 _ rfl
  have g1 : DataW.trod enc Tryz.prog W 0 (fun _ => true) true n' 9 [c1] = some y1 := by simpa [cellsN9] using hfld 1 _ rfl
  have g2 : DataW.trod enc Tryz.prog W 0 (fun _ => true) true n' 39 [c2] = some y2 := by simpa [cellsN9, cellsN39] using hfld 2 _ rfl
  have g3 : DataW.trod enc Tryz.prog W 0 (fun _ => true) true n' 2 [c3] = some y3 := by simpa [cellsN2, cellsN9, cellsN39] using hfld 3 _ rfl
  have g4 : DataW.trod enc Tryz.prog W 0 (fun _ => true) true n' 39 [c4] = some y4 := by simpa [cellsN2, cellsN9, cellsN39] using hfld 4 _ rfl
  have g5 : DataW.trod enc Tryz.prog W 0 (fun _ => true) true n' 40 [c5] = some y5 := by simpa [cellsN2, cellsN9, cellsN39, cellsN40] using hfld 5 _ rfl
  have g6 : DataW.trod enc Tryz.prog W 0 (fun _ => true) true n' 41 [c6] = some y6 := by simpa [cellsN2, cellsN9, cellsN39, cellsN40, cellsN41] using hfld 6 _ rfl
  obtain ⟨s0, e0, -, t0⟩ := DataW.trod_string Tryz.underlying9 g0
  simp at e0
  subst e0
  unfold maxLen at t0
  obtain ⟨s1, e1, -, t1⟩ := DataW.trod_string Tryz.underlying9 g1
  simp at e1
  subst e1
  unfold maxLen at t1
  obtain ⟨i3, e3, -, w3⟩ := DataW.trod_int Tryz.underlying2 g3
  simp at e3
  subst e3
  have b3 := bounds_i64 w3
  obtain ⟨l2, L2, n2, q2⟩ := open_list StrR 1 (fun s => s.size ≤ 9223372036854775807) (by omega) Tryz.underlying39 (by kernel_rfl) (fun n cs z hl h hlt => open_strE hl h) g2 (fun p hp => hlt p (by rw [hx]; simp [hp]))
  obtain ⟨l4, L4, n4, q4⟩ := open_list StrR 1 (fun s => s.size ≤ 9223372036854775807) (by omega) Tryz.underlying39 (by kernel_rfl) (fun n cs z hl h hlt => open_strE hl h) g4 (fun p hp => hlt p (by rw [hx]; simp [hp]))
  obtain ⟨l5, L5, n5, q5⟩ := open_list FieldR 3 (fun x => x.upto ∧ -9223372036854775808 ≤ x.flags ∧ x.flags < 9223372036854775808) (by omega) Tryz.underlying40 (by kernel_rfl) (fun n cs z hl h hlt => open_fieldE hl h hlt) g5 (fun p hp => hlt p (by rw [hx]; simp [hp]))
  obtain ⟨l6, L6, n6, q6⟩ := open_list MethR 9 (fun x => x.upto ∧ (∀ y ∈ x.code, y.wide) ∧ -9223372036854775808 ≤ x.flags ∧ x.flags < 9223372036854775808) (by omega) Tryz.underlying41 (by kernel_rfl) (fun n cs z hl h hlt => open_methE hl h hlt) g6 (fun p hp => hlt p (by rw [hx]; simp [hp]))
  exact ⟨⟨s0, s1, l2, i3, l4, l5, l6⟩, ⟨c2, c4, c5, c6, rfl, ⟨L2, fun h => by cases h⟩, ⟨L4, fun h => by cases h⟩, L5, L6⟩,
    ⟨by show s0.size ≤ _; omega, by show s1.size ≤ _; omega, ⟨n2, q2⟩, ⟨n4, q4⟩, ⟨n5, fun y hy => (q5 y hy).1⟩, ⟨n6, fun y hy => (q6 y hy).1⟩⟩,
    ⟨by show _ ≤ i3; omega, by show i3 < _; omega⟩, fun y hy => (q5 y hy).2, fun y hy => (q6 y hy).2.2, fun y hy => (q6 y hy).2.1⟩
end Go.Proofs.YtkkfkbcdcdifdaaGreatDoor
