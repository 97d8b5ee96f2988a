import Derived.Test.YtjjccimeikkogaaGreatDoorClsL
import Derived.Test.YtjjccimeikkogaaGreatDoorClsC
import Derived.Test.YtjjccimeikkogaaGreatDoorBootA
set_option maxRecDepth 1000000
set_option maxHeartbeats 4000000
namespace Go.Proofs.YtjjccimeikkogaaGreatDoor
set_option linter.unusedVariables false
open Go.Maps Go.WideMaps
open Go.ChangeShapes Go.WideShapes Go.ChangeAt Go.RowKit
theorem and_le27 (X : BitVec 64) : (X &&& BitVec.ofInt 64 27).toNat ≤ 27 := by
 rw [BitVec.toNat_and]
 exact Nat.le_trans Nat.and_le_right (by decide)
theorem flag_same27 (f : Int) (h1 : -9223372036854775808 ≤ f) (h2 : f < 9223372036854775808) : sumB f 27 = flagB f 27 ∧ (sumB f 27 = true → 0 ≤ f ∧ f ≤ 27) := by
 have ea : bits .and .i64 f 27 = IntKind.i64.wrap ((BitVec.ofInt 64 f &&& BitVec.ofInt 64 27).toNat : Nat) := rfl
 have en : bits .andNot .i64 f 27 = IntKind.i64.wrap ((BitVec.ofInt 64 f &&& ~~~BitVec.ofInt 64 27).toNat : Nat) := rfl
 have hX : ((BitVec.ofInt 64 f).toNat : Int) = f % 18446744073709551616 := by
  rw [BitVec.toNat_ofInt]; omega
 obtain ⟨X, hXe⟩ : ∃ X, X = BitVec.ofInt 64 f := ⟨_, rfl⟩
 rw [← hXe] at ea en hX
 have hle := and_le27 X
 rw [wrap_small _ (by omega)] at ea
 by_cases h0 : X &&& ~~~BitVec.ofInt 64 27 = 0#64
 ·have hXG : X &&& BitVec.ofInt 64 27 = X := by
   apply BitVec.eq_of_getLsbD_eq
   intro i hi
   have hb := congrArg (fun b : BitVec 64 => b.getLsbD i) h0
   simp only [BitVec.getLsbD_and, BitVec.getLsbD_not, BitVec.getLsbD_zero, hi, decide_true, Bool.true_and] at hb ⊢
   revert hb
   cases X.getLsbD i <;> cases (BitVec.ofInt 64 27).getLsbD i <;> simp
  rw [hXG] at ea hle
  have hf : 0 ≤ f ∧ f ≤ 27 := by omega
  have hs : sumB f 27 = true := by unfold sumB; rw [en, h0]; rfl
  have hg : flagB f 27 = true := by
   unfold flagB
   rw [ea, decide_eq_true hf.1, Bool.true_and, beq_iff_eq]
   omega
  exact ⟨by rw [hs, hg], fun _ => hf⟩
 ·have hs : sumB f 27 = false := by
   unfold sumB
   rw [en]
   apply beq_false_of_ne
   intro hz
   exact h0 (BitVec.eq_of_toNat_eq (by rw [wrap_zero _ (BitVec.isLt _) hz]; rfl))
  refine ⟨?_, fun h => by rw [hs] at h; cases h⟩
  rw [hs]
  cases hg : flagB f 27 with
  | false => rfl
  | true =>
   exfalso
   unfold flagB at hg
   rw [Bool.and_eq_true, decide_eq_true_eq, beq_iff_eq, ea] at hg
   have hXG : X &&& BitVec.ofInt 64 27 = X := BitVec.eq_of_toNat_eq (by omega)
   apply h0
   rw [← hXG, BitVec.and_assoc, BitVec.and_not_self]
   simp
theorem and_le390 (X : BitVec 64) : (X &&& BitVec.ofInt 64 390).toNat ≤ 390 := by
 rw [BitVec.toNat_and]
 exact Nat.le_trans Nat.and_le_right (by decide)
theorem flag_same390 (f : Int) (h1 : -9223372036854775808 ≤ f) (h2 : f < 9223372036854775808) : sumB f 390 = flagB f 390 ∧ (sumB f 390 = true → 0 ≤ f ∧ f ≤ 390) := by
 have ea : bits .and .i64 f 390 = IntKind.i64.wrap ((BitVec.ofInt 64 f &&& BitVec.ofInt 64 390).toNat : Nat) := rfl
 have en : bits .andNot .i64 f 390 = IntKind.i64.wrap ((BitVec.ofInt 64 f &&& ~~~BitVec.ofInt 64 390).toNat : Nat) := rfl
 have hX : ((BitVec.ofInt 64 f).toNat : Int) = f % 18446744073709551616 := by
  rw [BitVec.toNat_ofInt]; omega
 obtain ⟨X, hXe⟩ : ∃ X, X = BitVec.ofInt 64 f := ⟨_, rfl⟩
 rw [← hXe] at ea en hX
 have hle := and_le390 X
 rw [wrap_small _ (by omega)] at ea
 by_cases h0 : X &&& ~~~BitVec.ofInt 64 390 = 0#64
 ·have hXG : X &&& BitVec.ofInt 64 390 = X := by
   apply BitVec.eq_of_getLsbD_eq
   intro i hi
   have hb := congrArg (fun b : BitVec 64 => b.getLsbD i) h0
   simp only [BitVec.getLsbD_and, BitVec.getLsbD_not, BitVec.getLsbD_zero, hi, decide_true, Bool.true_and] at hb ⊢
   revert hb
   cases X.getLsbD i <;> cases (BitVec.ofInt 64 390).getLsbD i <;> simp
  rw [hXG] at ea hle
  have hf : 0 ≤ f ∧ f ≤ 390 := by omega
  have hs : sumB f 390 = true := by unfold sumB; rw [en, h0]; rfl
  have hg : flagB f 390 = true := by
   unfold flagB
   rw [ea, decide_eq_true hf.1, Bool.true_and, beq_iff_eq]
   omega
  exact ⟨by rw [hs, hg], fun _ => hf⟩
 ·have hs : sumB f 390 = false := by
   unfold sumB
   rw [en]
   apply beq_false_of_ne
   intro hz
   exact h0 (BitVec.eq_of_toNat_eq (by rw [wrap_zero _ (BitVec.isLt _) hz]; rfl))
  refine ⟨?_, fun h => by rw [hs] at h; cases h⟩
  rw [hs]
  cases hg : flagB f 390 with
  | false => rfl
  | true =>
   exfalso
   unfold flagB at hg
   rw [Bool.and_eq_true, decide_eq_true_eq, beq_iff_eq, ea] at hg
   have hXG : X &&& BitVec.ofInt 64 390 = X := BitVec.eq_of_toNat_eq (by omega)
   apply h0
   rw [← hXG, BitVec.and_assoc, BitVec.and_not_self]
   simp
def flagFacts390 (n : Nat) : Bool := hasB n 260 == (hasB n 4 || hasB n 256)
theorem flags390_all : (List.range 391).all flagFacts390 = true := by kernel_rfl
theorem flag390_facts {f : Int} (h0 : 0 ≤ f) (h1 : f ≤ 390) : hasB f 260 = (hasB f 4 || hasB f 256) := by
 have h := List.all_eq_true.1 flags390_all f.toNat (List.mem_range.2 (by omega))
 unfold flagFacts390 at h
 rw [show ((f.toNat : Nat) : Int) = f by omega] at h
 exact eq_of_beq h
def isObj (s : ByteArray) : Bool := s.toList == [79, 98, 106, 101, 99, 116]
def superB (x : ClassL) : Bool := if isObj x.name then x.super.toList == [] else nameS x.super
def ifsB (x : ClassL) : Bool := decide ((x.ifs.length : Int) ≤ 40) && (x.ifs.all nameS && decide ((x.ifs.map strLit).Nodup))
def permsB (x : ClassL) : Bool := !(decide ((40 : Int) < x.perms.length) || (hasB x.flags 256 != decide ((0 : Int) < x.perms.length))) && (x.perms.all nameS && ascFrom none x.perms)
def membsB (x : ClassL) : Bool := !(decide ((40 : Int) < x.fields.length) || decide ((40 : Int) < x.meths.length)) && (x.fields.all fieldI && (x.meths.all methI && (decide ((x.fields.map fieldKey).Nodup) && decide ((x.meths.map methKey).Nodup))))
def agreeB (x : ClassL) : Bool := !(hasB x.flags 2 && (hasB x.flags 4 || hasB x.flags 256)) && (hasB x.flags 4 || x.meths.all wholeM)
def faceB (x : ClassL) : Bool := !hasB x.flags 128 || (hasB x.flags 4 && (isObj x.super && (x.fields.all constF && x.meths.all openQ)))
def classI (x : ClassL) : Bool := nameS x.name && (superB x && (sumB x.flags 390 && (ifsB x && (permsB x && (membsB x && (agreeB x && faceB x))))))
def classS (x : ClassL) : Bool :=
 !(!nameS x.name || (((x.super.toList == []) != isObj x.name) || (!(x.super.toList == []) && !nameS x.super))) &&
 (!(!namesB x.ifs || (!namesB x.perms || (!flagB x.flags 390 || (hasB x.flags 256 != decide ((0 : Int) < x.perms.length))))) &&
 (ascFrom none x.perms && (!(hasB x.flags 2 && hasB x.flags 260) && (!(hasB x.flags 128 && (!hasB x.flags 4 || !isObj x.super)) && (fieldsS x.flags x.fields && methsS x.flags x.meths)))))
theorem all_and {α : Type} (p q : α → Bool) : ∀ xs : List α, (xs.all fun x => p x && q x) = (xs.all p && xs.all q)
 | [] => rfl
 | x :: r => by
  simp only [List.all_cons, all_and p q r]
  cases p x <;> cases q x <;> cases r.all p <;> cases r.all q <;> rfl
theorem all_or {α : Type} (b : Bool) (q : α → Bool) (xs : List α) : (xs.all fun x => b || q x) = (b || xs.all q) := by
 cases b
 ·simp
 ·simp
theorem all_congr {α : Type} {p q : α → Bool} {xs : List α} (h : ∀ x ∈ xs, p x = q x) : xs.all p = xs.all q := by
 induction xs with
 | nil => rfl
 | cons x r ih => simp only [List.all_cons, h x (by simp), ih fun y hy => h y (by simp [hy])]
theorem nameS_nil {s : ByteArray} (h : (s.toList == []) = true) : nameS s = false := by
 unfold nameS
 rw [ByteArray.toList_eq, beq_iff_eq] at h
 rw [h]
 rfl
theorem class_same (x : ClassL) (h1 : -9223372036854775808 ≤ x.flags) (h2 : x.flags < 9223372036854775808) (hf : ∀ y ∈ x.fields, -9223372036854775808 ≤ y.flags ∧ y.flags < 9223372036854775808) (hm : ∀ y ∈ x.meths, -9223372036854775808 ≤ y.flags ∧ y.flags < 9223372036854775808) : classS x = classI x := by
 have eF : (x.fields.all (fieldS x.flags)) = (x.fields.all fieldI && (!hasB x.flags 128 || x.fields.all constF)) := by
  rw [← all_or, ← all_and]
  refine all_congr fun y hy => ?_
  unfold fieldS fieldI constF nameS
  rw [(flag_same27 y.flags (hf y hy).1 (hf y hy).2).1]
  cases nameOk y.name.data.toList <;> cases typeL y.ty.data.toList <;> cases flagB y.flags 27 <;> cases hasB y.flags 2 <;> cases hasB y.flags 16 <;> cases hasB x.flags 128 <;> cases y.flags == 3 <;> rfl
 have eM : (x.meths.all (methC x.flags)) = (x.meths.all methI && ((hasB x.flags 4 || x.meths.all wholeM) && (!hasB x.flags 128 || x.meths.all openQ))) := by
  rw [← all_or, ← all_or, ← all_and, ← all_and]
  refine all_congr fun y hy => ?_
  unfold methC wholeM openQ
  rw [method_same y (hm y hy).1 (hm y hy).2]
  cases methI y <;> cases hasB y.flags 4 <;> cases hasB x.flags 4 <;> cases hasB x.flags 128 <;> cases (y.name.toList == [110, 101, 119]) <;> cases hasB y.flags 34 <;> rfl
 have eP : (namesB x.perms && ascFrom none x.perms) = (!decide ((40 : Int) < x.perms.length) && (x.perms.all nameS && ascFrom none x.perms)) := by
  unfold namesB
  rw [fresh_nil]
  cases ha : ascFrom none x.perms
  ·simp
  ·rw [decide_eq_true (asc_nodup _ _ ha)]; simp
 have eI : namesB x.ifs = ifsB x := by
  unfold namesB ifsB
  rw [fresh_nil]
  congr 1
  rw [← decide_not]; apply decide_eq_decide.2; omega
 have e3 := flag_same390 x.flags h1 h2
 have hnil : (x.super.toList == []) = true → nameS x.super = false := fun h => nameS_nil h
 unfold classS classI fieldsS methsS superB permsB membsB agreeB faceB
 rw [fresh_nil, fresh_nil, eF, eM, eI, ← e3.1]
 have e4 : sumB x.flags 390 = true → hasB x.flags 260 = (hasB x.flags 4 || hasB x.flags 256) := fun h => flag390_facts (e3.2 h).1 (e3.2 h).2
 generalize hasB x.flags 260 = f260 at *
 generalize hasB x.flags 256 = f256 at *
 generalize hasB x.flags 128 = f128 at *
 generalize hasB x.flags 4 = f4 at *
 generalize hasB x.flags 2 = f2 at *
 generalize sumB x.flags 390 = sm at *
 generalize nameS x.name = nm at *
 generalize nameS x.super = ns at *
 generalize (x.super.toList == []) = se at *
 generalize isObj x.name = on at *
 generalize isObj x.super = os at *
 generalize ifsB x = ib at *
 generalize namesB x.perms = pn at *
 generalize ascFrom none x.perms = pa at *
 generalize x.perms.all nameS = pl at *
 generalize decide ((40 : Int) < x.perms.length) = p40 at *
 generalize decide ((0 : Int) < x.perms.length) = p0 at *
 generalize decide ((40 : Int) < x.fields.length) = l40 at *
 generalize decide ((40 : Int) < x.meths.length) = m40 at *
 generalize decide ((x.fields.map fieldKey).Nodup) = fn at *
 generalize decide ((x.meths.map methKey).Nodup) = mn at *
 generalize x.fields.all fieldI = fi at *
 generalize x.fields.all constF = fc at *
 generalize x.meths.all methI = mi at *
 generalize x.meths.all wholeM = mw at *
 generalize x.meths.all openQ = mo at *
 clear e3 eI eF eM
 cases nm
 ·rfl
 cases sm
 ·cases se <;> cases on <;> cases ns <;> cases ib <;> cases pn <;> simp
 rw [e4 rfl]
 clear e4
 have hsup : (!(!true || ((se != on) || (!se && !ns)))) = (if on = true then se else ns) := by
  cases se <;> cases on <;> cases ns <;> first | rfl | (exact absurd (hnil rfl) (by decide)) | simp_all
 rw [hsup]
 clear hsup hnil
 generalize (if on = true then se else ns) = su
 cases su
 ·rfl
 cases ib
 ·rfl
 simp only [Bool.true_and, Bool.not_true, Bool.false_or]
 cases hpp : (pn && pa)
 ·rw [hpp] at eP
  cases pn
  ·revert eP
   cases p40 <;> cases pl <;> cases pa <;> first | (intro h; exact absurd h (by decide)) | (intro _; simp)
  ·cases pa
   ·simp
   ·cases hpp
 ·rw [hpp] at eP
  rw [Bool.and_eq_true] at hpp
  obtain ⟨rfl, rfl⟩ := hpp
  have hp40 : p40 = false := by cases p40 <;> simp_all
  have hpl : pl = true := by cases pl <;> simp_all
  subst hp40 hpl
  clear eP
  cases f256 <;> cases p0 <;> cases f2 <;> cases f4 <;> cases f128 <;> cases os <;> cases l40 <;> cases m40 <;> simp <;> cases fi <;> cases mi <;> cases fn <;> cases mn <;> simp <;> cases fc <;> cases mw <;> cases mo <;> rfl
theorem strs_same {lo hi lo' hi' : Nat} {w : World} {v : Value} {xs ys : List ByteArray} (h : ListAt StrR 1 true lo hi w v xs) (k : ListAt StrR 1 true lo' hi' w v ys) : xs = ys := by
 obtain ⟨a, c, hv⟩ := h.form
 obtain ⟨a', c', hv'⟩ := k.form
 subst hv
 injection hv' with e1 e2 e3
 subst e1 e3
 rw [e2] at h
 apply List.ext_getElem e2
 intro j h1 h2
 obtain ⟨b, off, hb, hc⟩ := h.strAt j h1
 obtain ⟨b', off', hb', hc'⟩ := k.strAt j h2
 rw [hb] at hb'
 obtain ⟨rfl, rfl⟩ : b = b' ∧ off = off' := by simpa using hb'
 rw [hc] at hc'
 simpa using hc'
def ClassL.wide (x : ClassL) : Prop := (-9223372036854775808 ≤ x.flags ∧ x.flags < 9223372036854775808) ∧ (∀ y ∈ x.fields, -9223372036854775808 ≤ y.flags ∧ y.flags < 9223372036854775808) ∧ (∀ y ∈ x.meths, -9223372036854775808 ≤ y.flags ∧ y.flags < 9223372036854775808) ∧ ∀ y ∈ x.meths, ∀ z ∈ y.code, z.wide
theorem implClass_calls (x : ClassL) (w : World) (row : List Value) (lo hi : Nat) (hh : hi ≤ w.heap.size) (hx : ClassR true lo hi w row x) (hy : x.small) (hw : x.wide) (he : EnvOk w) :
  Calls Tryz.prog 82 #[.agg row.toArray] w fun e w' => e = .returned (.bool (classI x)) ∧ Below w.heap.size w w' := by
 obtain ⟨p, q, s, t, rfl, hp, hq, hs, ht⟩ := hx
 obtain ⟨hN, hS, ⟨hc0, hc1⟩, ⟨hd0, hd1⟩, ⟨hf0, hf1⟩, ⟨hm0, hm1⟩⟩ := hy
 obtain ⟨a1, c1, rfl⟩ := hp.form
 obtain ⟨a2, c2, rfl⟩ := hq.form
 obtain ⟨a3, c3, rfl⟩ := hs.form
 obtain ⟨a4, c4, rfl⟩ := ht.form
 have kp : ∀ W, Below w.heap.size w W → ListAt StrR 1 true lo hi W _ x.ifs := fun W hW => hp.1.kept StrR.stable (Nat.le_refl _) (Nat.le_refl _) ((Same.below hW).mono (Nat.zero_le _) hh)
 have kq : ∀ W, Below w.heap.size w W → ListAt StrR 1 true lo hi W _ x.perms := fun W hW => hq.1.kept StrR.stable (Nat.le_refl _) (Nat.le_refl _) ((Same.below hW).mono (Nat.zero_le _) hh)
 have ks : ∀ W, Below w.heap.size w W → ListAt FieldR 3 true lo hi W _ x.fields := fun W hW => hs.kept FieldR.stable (Nat.le_refl _) (Nat.le_refl _) ((Same.below hW).mono (Nat.zero_le _) hh)
 have kt : ∀ W, Below w.heap.size w W → ListAt MethR 9 true lo hi W _ x.meths := fun W hW => ht.kept MethR.stable (Nat.le_refl _) (Nat.le_refl _) ((Same.below hW).mono (Nat.zero_le _) hh)
 refine classWalk x.name x.super x.flags a1 _ c1 a2 _ c2 a3 _ c3 a4 _ c4 _ _ _ _ _ _ _ _ w
  (fun W hW => implName_below x.name W (by omega))
  (fun W hW => superOk_walk x.name x.super x.flags a1 _ c1 a2 _ c2 a3 _ c3 a4 _ c4 (nameS x.super) W (fun V hV => implName_below x.super V (by omega)))
  (fun W hW => (sumOf_calls x.flags 390 W).mono (by rintro e w' ⟨rfl, rfl⟩; exact ⟨rfl, Below.refl _ _⟩))
  (fun W hW => interfacesOk_walk x.name x.super x.flags a1 _ c1 a2 _ c2 a3 _ c3 a4 _ c4 _ _ W
   (fun V hV => allName_calls _ x.ifs V lo hi (Nat.le_trans hh (below_on2 hW hV).size) (kp V (below_on2 hW hV)) hc0 hc1)
   (fun V hV => differS_calls _ x.ifs V lo hi (Nat.le_trans hh (below_on2 hW hV).size) (kp V (below_on2 hW hV)) hc0 hc1))
  (fun W hW => permitsOk_walk x.name x.super x.flags a1 _ c1 a2 _ c2 a3 _ c3 a4 _ c4 _ _ W
   (fun V hV => allName_calls _ x.perms V lo hi (Nat.le_trans hh (below_on2 hW hV).size) (kq V (below_on2 hW hV)) hd0 hd1)
   (fun V hV => (ascending_calls _ x.perms V lo hi (kq V (below_on2 hW hV)) hd0).mono (by rintro e w' ⟨rfl, rfl⟩; exact ⟨rfl, Below.refl _ _⟩)))
  (fun W hW => membersOk_walk x.name x.super x.flags a1 _ c1 a2 _ c2 a3 _ c3 a4 _ c4 _ _ _ _ W
   (fun V hV => allFieldOk_calls fieldI _ x.fields V lo hi (Nat.le_trans hh (below_on2 hW hV).size) (ks V (below_on2 hW hV)) hf0 (fun y hy U row hU hr => fieldOk_calls y U row lo hi hr (hf1 y hy)))
   (fun V hV => allMethOk_calls methI _ x.meths V lo hi (Nat.le_trans hh (below_on2 hW hV).size) (kt V (below_on2 hW hV)) hm0 (fun y hy U row hU hr => implMethod_calls y U row lo hi (Nat.le_trans hh (below_on2 (below_on2 hW hV) hU).size) hr (hm1 y hy) (hw.2.2.2 y hy) (he.kept (below_on2 (below_on2 hW hV) hU))))
   (fun V hV => differF_calls _ x.fields V lo hi (Nat.le_trans hh (below_on2 hW hV).size) (ks V (below_on2 hW hV)) hf0 hf1)
   (fun V hV => differM_calls _ x.meths V lo hi (Nat.le_trans hh (below_on2 hW hV).size) (kt V (below_on2 hW hV)) hm0 hm1))
  (fun W hW => flagsAgree_walk x.name x.super x.flags a1 _ c1 a2 _ c2 a3 _ c3 a4 _ c4 _ W
   (fun V hV => allWhole_calls wholeM _ x.meths V lo hi (Nat.le_trans hh (below_on2 hW hV).size) (kt V (below_on2 hW hV)) hm0 (fun y hy U row hU hr => wholeM_calls y U row lo hi hr)))
  (fun W hW => interfaceOk_walk x.name x.super x.flags a1 _ c1 a2 _ c2 a3 _ c3 a4 _ c4 _ _ W
   (fun V hV => allConst_calls constF _ x.fields V lo hi (Nat.le_trans hh (below_on2 hW hV).size) (ks V (below_on2 hW hV)) hf0 (fun y hy U row hU hr => constF_calls y U row lo hi hr))
   (fun V hV => allOpen_calls openQ _ x.meths V lo hi (Nat.le_trans hh (below_on2 hW hV).size) (kt V (below_on2 hW hV)) hm0 (fun y hy U row hU hr => openQ_calls y U row lo hi hr)))
open Classical in
theorem specClass_calls (x : ClassL) (w : World) (row : List Value) (lo hi : Nat) (hh : hi ≤ w.heap.size) (hx : ClassR true lo hi w row x) (hy : x.small) :
  Calls Tryz.prog 71 #[.agg row.toArray] w fun e w' => e = .returned (.bool (classS x)) ∧ Below w.heap.size w w' := by
 obtain ⟨p, q, s, t, rfl, hp, hq, hs, ht⟩ := hx
 obtain ⟨hN, hS, ⟨hc0, hc1⟩, ⟨hd0, hd1⟩, ⟨hf0, hf1⟩, ⟨hm0, hm1⟩⟩ := hy
 have hsame : p = q → namesB x.ifs = namesB x.perms := fun e => by
  subst e
  rw [strs_same hp.1 hq.1]
 obtain ⟨a1, c1, rfl⟩ := hp.form
 obtain ⟨a2, c2, rfl⟩ := hq.form
 obtain ⟨a3, c3, rfl⟩ := hs.form
 obtain ⟨a4, c4, rfl⟩ := ht.form
 have e1 : (if Value.slice a1 x.ifs.length c1 = .slice a1 x.ifs.length c1 then namesB x.ifs else namesB x.perms) = namesB x.ifs := if_pos rfl
 have e2 : (if Value.slice a2 x.perms.length c2 = .slice a1 x.ifs.length c1 then namesB x.ifs else namesB x.perms) = namesB x.perms := by
  by_cases h : Value.slice a2 x.perms.length c2 = .slice a1 x.ifs.length c1
  ·rw [if_pos h]; exact hsame h.symm
  ·rw [if_neg h]
 have key := specClass_walk x.name x.super x.flags a1 _ c1 a2 _ c2 a3 _ c3 a4 _ c4 w nameS (fun v => if v = .slice a1 x.ifs.length c1 then namesB x.ifs else namesB x.perms) (flagB x.flags 390) (fieldsS x.flags x.fields) (methsS x.flags x.meths) x.perms lo hi hh hN hS hd0 rfl hq.1
  (fun s W hs => specName_calls s W (by omega))
  (fun v W hv hW => by
   rcases hv with rfl | rfl
   ·show Calls Tryz.prog 103 #[_] W fun e w' => e = .returned (.bool (if Value.slice a1 x.ifs.length c1 = .slice a1 x.ifs.length c1 then namesB x.ifs else namesB x.perms)) ∧ _
    rw [e1]
    exact l2Names_calls _ x.ifs W lo hi (hp.kept StrR.stable (Nat.le_refl _) (Nat.le_refl _) ((Same.below hW).mono (Nat.zero_le _) hh)) hc0 hc1
   ·show Calls Tryz.prog 103 #[_] W fun e w' => e = .returned (.bool (if Value.slice a2 x.perms.length c2 = .slice a1 x.ifs.length c1 then namesB x.ifs else namesB x.perms)) ∧ _
    rw [e2]
    exact l2Names_calls _ x.perms W lo hi (hq.kept StrR.stable (Nat.le_refl _) (Nat.le_refl _) ((Same.below hW).mono (Nat.zero_le _) hh)) hd0 hd1)
  (fun W => l2Flags_calls x.flags 390 W)
  (fun W hW => l2FieldsOk_walk x.name x.super x.flags a1 _ c1 a2 _ c2 a3 _ c3 a4 _ c4 W x.fields lo hi (Nat.le_trans hh hW.size) (hs.kept FieldR.stable (Nat.le_refl _) (Nat.le_refl _) ((Same.below hW).mono (Nat.zero_le _) hh)) rfl hf0 hf1)
  (fun W hW => l2MethodsOk_walk x.name x.super x.flags a1 _ c1 a2 _ c2 a3 _ c3 a4 _ c4 W x.meths lo hi (Nat.le_trans hh hW.size) (ht.kept MethR.stable (Nat.le_refl _) (Nat.le_refl _) ((Same.below hW).mono (Nat.zero_le _) hh)) rfl hm0 hm1)
 rw [e1, e2] at key
 exact key
theorem list7L {α : Type} {cs : List α} (h : cs.length = 7) : ∃ c0 c1 c2 c3 c4 c5 c6, cs = [c0, c1, c2, c3, c4, c5, c6] := by
 match cs, h with
 | [c0, c1, c2, c3, c4, c5, c6], _ => exact ⟨c0, c1, c2, c3, c4, c5, c6, rfl⟩
theorem cellsN40 : Tryz.prog.cellsOf 41 = 1 := by kernel_rfl
theorem cellsN41 : Tryz.prog.cellsOf 42 = 1 := by kernel_rfl
theorem open_fieldE {H : Type} {enc : TypeId × Value → H} {W : World} {n : Nat} {cs : List Value} {z : DataW H × List MemPlace} (hl : cs.length = 3) (h : DataW.trod enc Tryz.prog W 0 (fun _ => true) true n 100 cs = some z) (hlt : ∀ p ∈ z.2, p.block < W.heap.size) :
  ∃ x : FieldL, FieldR false 0 W.heap.size W cs x ∧ (x.upto ∧ -9223372036854775808 ≤ x.flags ∧ x.flags < 9223372036854775808) := by
 obtain ⟨c0, c1, c2, rfl⟩ := list3L hl
 obtain ⟨xs, n', _, hx, _, hlen, hfld⟩ := DataW.trod_struct Tryz.underlying100 h
 obtain ⟨y0, y1, y2, rfl⟩ := list3L hlen
 have g0 : DataW.trod enc Tryz.prog W 0 (fun _ => true) true n' 9 [c0] = some y0 := by simpa [cellsN9] using hfld 0 _ rfl
 have g1 : DataW.trod enc Tryz.prog W 0 (fun _ => true) true n' 9 [c1] = some y1 := by simpa [cellsN9] using hfld 1 _ rfl
 have g2 : DataW.trod enc Tryz.prog W 0 (fun _ => true) true n' 2 [c2] = some y2 := by simpa [cellsN2, cellsN9] using hfld 2 _ rfl
 obtain ⟨s0, e0, -, t0⟩ := DataW.trod_string Tryz.underlying9 g0
 simp at e0
 subst e0
 unfold maxLen at t0
 obtain ⟨s1, e1, -, t1⟩ := DataW.trod_string Tryz.underlying9 g1
 simp at e1
 subst e1
 unfold maxLen at t1
 obtain ⟨i2, e2, -, w2⟩ := DataW.trod_int Tryz.underlying2 g2
 simp at e2
 subst e2
 have b2 := bounds_i64 w2
 exact ⟨⟨s0, s1, i2⟩, rfl, ⟨by show s0.size ≤ _; omega, by show s1.size ≤ _; omega⟩, by show _ ≤ i2; omega, by show i2 < _; omega⟩
theorem open_classE {H : Type} {enc : TypeId × Value → H} {W : World} {n : Nat} {cs : List Value} {z : DataW H × List MemPlace} (hl : cs.length = 7) (h : DataW.trod enc Tryz.prog W 0 (fun _ => true) true n 44 cs = some z) (hlt : ∀ p ∈ z.2, p.block < W.heap.size) :
  ∃ x : ClassL, ClassR false 0 W.heap.size W cs x ∧ (x.upto ∧ x.wide) := by
 obtain ⟨c0, c1, c2, c3, c4, c5, c6, rfl⟩ := list7L hl
 obtain ⟨xs, n', _, hx, _, hlen, hfld⟩ := DataW.trod_struct Tryz.underlying44 h
 obtain ⟨y0, y1, y2, y3, y4, y5, y6, rfl⟩ := list7L hlen
 have g0 : DataW.trod enc Tryz.prog W 0 (fun _ => true) true n' 9 [c0] = some y0 := by simpa [cellsN9] using hfld 0 _ rfl
 have g1 : DataW.trod enc Tryz.prog W 0 (fun _ => true) true n' 9 [c1] = some y1 := by simpa [cellsN9] using hfld 1 _ rfl
 have g2 : DataW.trod enc Tryz.prog W 0 (fun _ => true) true n' 24 [c2] = some y2 := by simpa [cellsN9, cellsN39] using hfld 2 _ rfl
 have g3 : DataW.trod enc Tryz.prog W 0 (fun _ => true) true n' 2 [c3] = some y3 := by simpa [cellsN2, cellsN9, cellsN39] using hfld 3 _ rfl
 have g4 : DataW.trod enc Tryz.prog W 0 (fun _ => true) true n' 24 [c4] = some y4 := by simpa [cellsN2, cellsN9, cellsN39] using hfld 4 _ rfl
 have g5 : DataW.trod enc Tryz.prog W 0 (fun _ => true) true n' 41 [c5] = some y5 := by simpa [cellsN2, cellsN9, cellsN39, cellsN40] using hfld 5 _ rfl
 have g6 : DataW.trod enc Tryz.prog W 0 (fun _ => true) true n' 42 [c6] = some y6 := by simpa [cellsN2, cellsN9, cellsN39, cellsN40, cellsN41] using hfld 6 _ rfl
 obtain ⟨s0, e0, -, t0⟩ := DataW.trod_string Tryz.underlying9 g0
 simp at e0
 subst e0
 unfold maxLen at t0
 obtain ⟨s1, e1, -, t1⟩ := DataW.trod_string Tryz.underlying9 g1
 simp at e1
 subst e1
 unfold maxLen at t1
 obtain ⟨i3, e3, -, w3⟩ := DataW.trod_int Tryz.underlying2 g3
 simp at e3
 subst e3
 have b3 := bounds_i64 w3
 obtain ⟨l2, L2, n2, q2⟩ := open_list StrR 1 (fun s => s.size ≤ 9223372036854775807) (by omega) Tryz.underlying24 (by kernel_rfl) (fun n cs z hl h hlt => open_strE hl h) g2 (fun p hp => hlt p (by rw [hx]; simp [hp]))
 obtain ⟨l4, L4, n4, q4⟩ := open_list StrR 1 (fun s => s.size ≤ 9223372036854775807) (by omega) Tryz.underlying24 (by kernel_rfl) (fun n cs z hl h hlt => open_strE hl h) g4 (fun p hp => hlt p (by rw [hx]; simp [hp]))
 obtain ⟨l5, L5, n5, q5⟩ := open_list FieldR 3 (fun x => x.upto ∧ -9223372036854775808 ≤ x.flags ∧ x.flags < 9223372036854775808) (by omega) Tryz.underlying41 (by kernel_rfl) (fun n cs z hl h hlt => open_fieldE hl h hlt) g5 (fun p hp => hlt p (by rw [hx]; simp [hp]))
 obtain ⟨l6, L6, n6, q6⟩ := open_list MethR 9 (fun x => x.upto ∧ (∀ y ∈ x.code, y.wide) ∧ -9223372036854775808 ≤ x.flags ∧ x.flags < 9223372036854775808) (by omega) Tryz.underlying42 (by kernel_rfl) (fun n cs z hl h hlt => open_methE hl h hlt) g6 (fun p hp => hlt p (by rw [hx]; simp [hp]))
 exact ⟨⟨s0, s1, l2, i3, l4, l5, l6⟩, ⟨c2, c4, c5, c6, rfl, ⟨L2, fun h => by cases h⟩, ⟨L4, fun h => by cases h⟩, L5, L6⟩,
  ⟨by show s0.size ≤ _; omega, by show s1.size ≤ _; omega, ⟨n2, q2⟩, ⟨n4, q4⟩, ⟨n5, fun y hy => (q5 y hy).1⟩, ⟨n6, fun y hy => (q6 y hy).1⟩⟩,
  ⟨by show _ ≤ i3; omega, by show i3 < _; omega⟩, fun y hy => (q5 y hy).2, fun y hy => (q6 y hy).2.2, fun y hy => (q6 y hy).2.1⟩
theorem elemT55 : ∃ i z, Tryz.prog.info? 49 = some i ∧ i.zero = some z ∧ i.size = 7 ∧ i.bytes = 136 := by
 obtain ⟨i0, hi0⟩ : ∃ i, Tryz.prog.info? 49 = some i := Option.isSome_iff_exists.1 (by kernel_rfl)
 obtain ⟨z, hz⟩ : ∃ z, (Tryz.prog.info? 49).bind (·.zero) = some z := Option.isSome_iff_exists.1 (by kernel_rfl)
 refine ⟨i0, z, hi0, ?_, ?_, ?_⟩
 ·rw [hi0] at hz; exact hz
 ·have : (Tryz.prog.info? 49).map (·.size) = some 7 := by kernel_rfl
  rw [hi0] at this; exact Option.some.inj this
 ·have : (Tryz.prog.info? 49).map (·.bytes) = some 136 := by kernel_rfl
  rw [hi0] at this; exact Option.some.inj this
theorem toClassS_calls (v : Value) (xs : List ClassL) (w : World) (base : Nat) (hbase : base ≤ w.heap.size) (ht : ListAt ClassR 7 false 0 base w v xs) (hn : xs.length ≤ 1048576) (hel : ∀ x ∈ xs, ElemTo 26 7 ClassR base x) :
  Calls Tryz.prog 9 #[v] w fun e w' => ∃ u, e = .returned u ∧ ListAt ClassR 7 true w.heap.size w'.heap.size w' u xs ∧ Below w.heap.size w w' := by
 obtain ⟨i0, z0, hi0, hz0, hz1, hz2⟩ := elemT55
 have hld : (Tryz.prog.info? 44).map (·.size) = some 7 := by kernel_rfl
 have hst : (Tryz.prog.info? 49).map (·.size) = some 7 := by kernel_rfl
 have hldH : Hid ((Tryz.prog.info? 44).map (·.size) = some 7) := hld
 have hstH : Hid ((Tryz.prog.info? 49).map (·.size) = some 7) := hst
 clear hld hst
 obtain ⟨a, c, rfl⟩ := ht.form
 have helH : Hid (∀ x ∈ xs, ElemTo 26 7 ClassR base x) := hel
 have htH : Hid (∀ wr, Below w.heap.size w wr → ListAt ClassR 7 false 0 base wr (.slice a xs.length c) xs) := fun wr hw => ht.kept ClassR.stable (Nat.le_refl _) (Nat.le_refl _) ((Same.below hw).mono (Nat.zero_le _) hbase)
 have hbH : Hid (base ≤ w.heap.size) := hbase
 clear ht hel hbase
 go_enter Tryz.func9, Tryz.ntmps9
 go_wp2_with (refine wpList_make_full _ rfl (.tmp 6) (.tmp 6) 26 rfl w.heap.size 49 i0 z0 7 Tryz.underlying26 hi0 hz0 hz1 .i64 .i64 xs.length xs.length xs.length rfl rfl rfl rfl (by rw [hz2]; omega) (by unfold maxLen; omega) (Nat.le_refl _) ?_; intro w1 hown1 hgrow1)
 have hFH : Hid (FilledL ClassR 7 xs w 0 w1) := FilledL.start hown1 hgrow1
 clear hown1 hgrow1 hi0 hz0 hz1 hz2
 go_loopw [4] (fun i wr => ∃ m : Nat, m ≤ xs.length ∧ i = .int .i64 m ∧ Hid (FilledL ClassR 7 xs w m wr)) (fun i _ => xs.length - (intOf i).toNat)
 case atStart => exact ⟨0, Nat.zero_le _, rfl, hFH⟩
 case round =>
  obtain ⟨m, hm, rfl, hF⟩ := hrel
  by_cases hlt : m < xs.length
  ·obtain ⟨b, off, row, rfl, hbb, hrl, hrr, hrx⟩ := (htH.out wr hF.out.1).at m hlt
   have hlt' : (m : Int) < (xs.length : Int) := by omega
   have hcall := helH.out xs[m] (List.getElem_mem hlt) wr row (Nat.le_trans hbH.out hF.out.1.size) hrx hrl
   have hcallH : Hid (Calls Tryz.prog 26 #[.agg row.toArray] wr _) := hcall
   have hrrH : Hid (wr.rangeAt b (off + m * 7) row) := hrr
   have hrlH : Hid (row.length = 7) := hrl
   clear hcall hrr hrl hrx
   go_wp2_with (first
    | (refine wpList_load_mid rfl 44 _ rfl b (off + m * 7) (by first | rfl | (simp; done)) row _ hrrH.out Tryz.underlying44 rfl (by rw [hrlH.out]; exact hldH.out) ?_)
    | (go_at_call 26; refine hcallH.out.mono ?_; rintro e w2 ⟨row', rfl, hl', hone, hx', hb2⟩)
    | (refine wpList_store_mid rfl 49 _ _ rfl w.heap.size (m * 7) row'.toArray (by first | rfl | (simp; done)) (by first | rfl | (simp; done)) (by simpa [hl'] using hF.out.room hlt hb2) (by simpa [hl'] using hstH.out) hone.all ?_))
   go_roundw
   case rel => exact ⟨m + 1, by omega, by go_num, hF.out.next ClassR.stable hlt hb2 hl' hx'⟩
   case measure => simp [intOf]; omega
  ·have hend := hF.out
   go_wp2
   go_ret
   exact ⟨_, rfl, hend.done ClassR.stable (by omega), hend.1⟩
theorem eqClassS_calls (u v : Value) (xs : List ClassL) (w : World) (lo1 hi1 lo2 hi2 : Nat) (h1 : hi1 ≤ w.heap.size) (h2 : hi2 ≤ w.heap.size) (hu : ListAt ClassR 7 true lo1 hi1 w u xs) (hv : ListAt ClassR 7 true lo2 hi2 w v xs) (hn : xs.length ≤ 1048576) (hel : ∀ x ∈ xs, ElemEq 30 7 ClassR x) :
  Calls Tryz.prog 12 #[u, v] w fun e w' => e = .returned (.bool true) ∧ Below w.heap.size w w' := by
 obtain ⟨a, c, rfl⟩ := hu.form
 obtain ⟨a2, c2, rfl⟩ := hv.form
 have helH : Hid (∀ x ∈ xs, ElemEq 30 7 ClassR x) := hel
 have huH : Hid (∀ wr, Below w.heap.size w wr → ListAt ClassR 7 true lo1 hi1 wr (.slice a xs.length c) xs) := fun wr hw => hu.kept ClassR.stable (Nat.le_refl _) (Nat.le_refl _) ((Same.below hw).mono (Nat.zero_le _) h1)
 have hvH : Hid (∀ wr, Below w.heap.size w wr → ListAt ClassR 7 true lo2 hi2 wr (.slice a2 xs.length c2) xs) := fun wr hw => hv.kept ClassR.stable (Nat.le_refl _) (Nat.le_refl _) ((Same.below hw).mono (Nat.zero_le _) h2)
 have hhH : Hid (hi1 ≤ w.heap.size ∧ hi2 ≤ w.heap.size) := ⟨h1, h2⟩
 clear hu hv hel h1 h2
 go_enter Tryz.func12, Tryz.ntmps12
 go_wp2
 go_loopw [5] (fun i wr => ∃ m : Nat, m ≤ xs.length ∧ i = .int .i64 m ∧ Hid (Below w.heap.size w wr)) (fun i _ => xs.length - (intOf i).toNat)
 case atStart => exact ⟨0, Nat.zero_le _, rfl, Below.refl _ _⟩
 case round =>
  obtain ⟨m, hm, rfl, hB⟩ := hrel
  by_cases hlt : m < xs.length
  ·obtain ⟨b, off, r1, rfl, hb1, hl1, hr1, hx1⟩ := (huH.out wr hB.out).at m hlt
   obtain ⟨b', off', r2, rfl, hb2, hl2, hr2, hx2⟩ := (hvH.out wr hB.out).at m hlt
   have hlt' : (m : Int) < (xs.length : Int) := by omega
   have hsz := hB.out.size
   have hcH : Hid (∀ W, Below wr.heap.size wr W → Calls Tryz.prog 30 #[.agg r1.toArray, .agg r2.toArray] W fun e w' => e = .returned (.bool true) ∧ Below W.heap.size W w') := fun W hW =>
    helH.out xs[m] (List.getElem_mem hlt) W r1 r2 lo1 hi1 lo2 hi2 (by have := hW.size; have := hhH.out.1; omega) (by have := hW.size; have := hhH.out.2; omega)
     (ClassR.stable _ _ _ _ _ _ _ _ _ hx1 (Nat.le_refl _) (Nat.le_refl _) ((Same.below hW).mono (Nat.zero_le _) (by have := hhH.out.1; omega)))
     (ClassR.stable _ _ _ _ _ _ _ _ _ hx2 (Nat.le_refl _) (Nat.le_refl _) ((Same.below hW).mono (Nat.zero_le _) (by have := hhH.out.2; omega))) hl1 hl2
   obtain ⟨x, hx⟩ : ∃ x, x = xs[m] := ⟨_, rfl⟩
   rw [← hx] at hx1 hx2
   obtain ⟨p1, q1, s1, t1, rfl, -⟩ := hx1
   obtain ⟨p2, q2, s2, t2, rfl, -⟩ := hx2
   have hmk : Hid (∀ W, Below wr.heap.size wr W → (Below wr.heap.size wr W ∧ W.cell? ⟨b, off + m * 7, none⟩ = some (.string x.name) ∧ W.cell? ⟨b, off + m * 7 + 1, none⟩ = some (.string x.super) ∧ W.cell? ⟨b, off + m * 7 + 2, none⟩ = some (p1) ∧ W.cell? ⟨b, off + m * 7 + 3, none⟩ = some (.int .i64 x.flags) ∧ W.cell? ⟨b, off + m * 7 + 4, none⟩ = some (q1) ∧ W.cell? ⟨b, off + m * 7 + 5, none⟩ = some (s1) ∧ W.cell? ⟨b, off + m * 7 + 6, none⟩ = some (t1) ∧ W.cell? ⟨b', off' + m * 7, none⟩ = some (.string x.name) ∧ W.cell? ⟨b', off' + m * 7 + 1, none⟩ = some (.string x.super) ∧ W.cell? ⟨b', off' + m * 7 + 2, none⟩ = some (p2) ∧ W.cell? ⟨b', off' + m * 7 + 3, none⟩ = some (.int .i64 x.flags) ∧ W.cell? ⟨b', off' + m * 7 + 4, none⟩ = some (q2) ∧ W.cell? ⟨b', off' + m * 7 + 5, none⟩ = some (s2) ∧ W.cell? ⟨b', off' + m * 7 + 6, none⟩ = some (t2))) := fun W hW => by
    have kp1 := rangeAt_same (Same.below hW) (Nat.zero_le _) (show b < wr.heap.size by have := hhH.out.1; omega) hr1
    have kp2 := rangeAt_same (Same.below hW) (Nat.zero_le _) (show b' < wr.heap.size by have := hhH.out.2; omega) hr2
    exact ⟨hW, kp1 0 _ rfl, kp1 1 _ rfl, kp1 2 _ rfl, kp1 3 _ rfl, kp1 4 _ rfl, kp1 5 _ rfl, kp1 6 _ rfl, kp2 0 _ rfl, kp2 1 _ rfl, kp2 2 _ rfl, kp2 3 _ rfl, kp2 4 _ rfl, kp2 5 _ rfl, kp2 6 _ rfl⟩
   clear hr1 hr2 hl1 hl2 hsz hb1 hb2 hx
   have hS0 := hmk.out wr (Below.refl _ _)
   go_wp2
   go_region_held3 (fun W => Below wr.heap.size wr W ∧ W.cell? ⟨b, off + m * 7, none⟩ = some (.string x.name) ∧ W.cell? ⟨b, off + m * 7 + 1, none⟩ = some (.string x.super) ∧ W.cell? ⟨b, off + m * 7 + 2, none⟩ = some (p1) ∧ W.cell? ⟨b, off + m * 7 + 3, none⟩ = some (.int .i64 x.flags) ∧ W.cell? ⟨b, off + m * 7 + 4, none⟩ = some (q1) ∧ W.cell? ⟨b, off + m * 7 + 5, none⟩ = some (s1) ∧ W.cell? ⟨b, off + m * 7 + 6, none⟩ = some (t1) ∧ W.cell? ⟨b', off' + m * 7, none⟩ = some (.string x.name) ∧ W.cell? ⟨b', off' + m * 7 + 1, none⟩ = some (.string x.super) ∧ W.cell? ⟨b', off' + m * 7 + 2, none⟩ = some (p2) ∧ W.cell? ⟨b', off' + m * 7 + 3, none⟩ = some (.int .i64 x.flags) ∧ W.cell? ⟨b', off' + m * 7 + 4, none⟩ = some (q2) ∧ W.cell? ⟨b', off' + m * 7 + 5, none⟩ = some (s2) ∧ W.cell? ⟨b', off' + m * 7 + 6, none⟩ = some (t2)) (first | assumption | exact hmk.out _ (Below.drew (And.left (by assumption))) | exact hmk.out _ (below_on (And.left (by assumption)) (by assumption))) (first | (go_at_call 30; refine (hcH.out _ (by first | exact Below.refl _ _ | assumption | exact And.left (by assumption))).mono ?_; rintro e w2 ⟨rfl, hb2⟩))
   go_wp2
   go_roundw
   case rel => exact ⟨m + 1, by omega, by go_num, below_on hB.out (by first | assumption | exact And.left (by assumption))⟩
   case measure => simp [intOf]; omega
  ·go_wp2
   go_ret
   exact ⟨rfl, hB.out⟩
theorem szClassS_calls (v : Value) (xs : List ClassL) (w : World) (own : Bool) (lo hi : Nat) (l : Int) (hh : hi ≤ w.heap.size) (ht : ListAt ClassR 7 own lo hi w v xs) (hn : xs.length ≤ 9223372036854775807) (hl0 : 0 ≤ l) (hl1 : l ≤ 1048576) (hel : ∀ x ∈ xs, ElemSz 23 7 ClassR ClassL.sz x) :
  Calls Tryz.prog 7 #[v, .int .i64 l] w fun e w' => SzQ l (sumL ClassL.sz xs) e ∧ Below w.heap.size w w' := by
 have hldH : Hid ((Tryz.prog.info? 44).map (·.size) = some 7) := by show (Tryz.prog.info? 44).map (·.size) = some 7; kernel_rfl
 obtain ⟨a, c, rfl⟩ := ht.form
 have helH : Hid (∀ x ∈ xs, ElemSz 23 7 ClassR ClassL.sz x) := hel
 have htH : Hid (∀ wr, Below w.heap.size w wr → ListAt ClassR 7 own lo hi wr (.slice a xs.length c) xs) := fun wr hw => ht.kept ClassR.stable (Nat.le_refl _) (Nat.le_refl _) ((Same.below hw).mono (Nat.zero_le _) hh)
 have hhH : Hid (hi ≤ w.heap.size) := hh
 clear ht hel hh
 by_cases hc : l < xs.length
 ·go_enter Tryz.func7, Tryz.ntmps7
  go_wp2
  go_ret
  exact ⟨SzQ.neg (by unfold sumL; omega), Below.refl _ _⟩
 go_enter Tryz.func7, Tryz.ntmps7
 go_wp2
 go_loopw [1, 5] (fun q i wr => ∃ (m : Nat) (z : Int), m ≤ xs.length ∧ q = .int .i64 z ∧ 0 ≤ z ∧ z ≤ 1048576 ∧ Hid (z = l - (xs.length + ((xs.take m).map ClassL.sz).sum : Nat)) ∧ i = .int .i64 m ∧ Hid (Below w.heap.size w wr)) (fun _ i _ => xs.length - (intOf i).toNat)
 case atStart => exact ⟨0, _, Nat.zero_le _, rfl, by omega, by omega, by simp [Hid], rfl, Below.refl _ _⟩
 case round =>
  obtain ⟨m, z, hm, rfl, hz0, hz1, hz, rfl, hB⟩ := hrel
  by_cases hlt : m < xs.length
  ·obtain ⟨b, off, row, rfl, hbb, hrl, hrr, hrx⟩ := (htH.out wr hB.out).at m hlt
   have hlt' : (m : Int) < (xs.length : Int) := by omega
   have hcallH : Hid (Calls Tryz.prog 23 #[.agg row.toArray, .int .i64 z] wr fun e w' => SzQ z (ClassL.sz xs[m]) e ∧ Below wr.heap.size wr w') := helH.out xs[m] (List.getElem_mem hlt) wr row own lo hi z (Nat.le_trans hhH.out hB.out.size) hrx hrl hz0 hz1
   have hrrH : Hid (wr.rangeAt b (off + m * 7) row) := hrr
   have hrlH : Hid (row.length = 7) := hrl
   have hst : Hid (((xs.take (m + 1)).map ClassL.sz).sum = ((xs.take m).map ClassL.sz).sum + ClassL.sz xs[m]) := sum_take ClassL.sz xs m hlt
   have hle : Hid (((xs.take (m + 1)).map ClassL.sz).sum ≤ (xs.map ClassL.sz).sum) := sum_take_le ClassL.sz xs (m + 1)
   obtain ⟨n, hnn⟩ : ∃ n, n = ClassL.sz xs[m] := ⟨_, rfl⟩
   rw [← hnn] at hcallH hst
   clear hrr hrl hrx hnn
   by_cases hcc : z < n
   ·go_wp2_with (first
     | (refine wpList_load_mid rfl 44 _ rfl b (off + m * 7) (by first | rfl | (simp; done)) row _ hrrH.out Tryz.underlying44 rfl (by rw [hrlH.out]; exact hldH.out) ?_)
     | (go_at_call 23; refine hcallH.out.mono ?_; rintro e w2 ⟨⟨r, rfl, hr1, hr2⟩, hb2⟩; obtain rfl := hr1 hcc))
    go_ret
    have := hz.out; have := hst.out; have := hle.out
    exact ⟨SzQ.neg (by unfold sumL; omega), below_on2 hB.out hb2⟩
   ·go_wp2_with (first
     | (refine wpList_load_mid rfl 44 _ rfl b (off + m * 7) (by first | rfl | (simp; done)) row _ hrrH.out Tryz.underlying44 rfl (by rw [hrlH.out]; exact hldH.out) ?_)
     | (go_at_call 23; refine hcallH.out.mono ?_; rintro e w2 ⟨⟨r, rfl, hr1, hr2⟩, hb2⟩; obtain rfl := hr2 (by omega)))
    go_roundw
    case rel =>
     have := hz.out; have := hst.out
     exact ⟨m + 1, _, by omega, rfl, by omega, by omega, (show _ = _ by omega), by go_num, below_on2 hB.out hb2⟩
    case measure => simp [intOf]; omega
  ·go_wp2
   go_ret
   have h := hz.out
   rw [List.take_of_length_le (by omega)] at h
   exact ⟨SzQ.pos (by unfold sumL; omega) (by unfold sumL; omega), hB.out⟩
def bootB (s : ByteArray) : Bool := (s.toList == [79, 98, 106, 101, 99, 116]) || (s.toList == [83, 116, 114, 105, 110, 103]) || (s.toList == [84, 104, 114, 111, 119, 97, 98, 108, 101]) || (s.toList == [69, 114, 114, 111, 114]) || (s.toList == [84, 104, 114, 101, 97, 100]) || (s.toList == [83, 121, 115, 116, 101, 109])
def errsB (s : ByteArray) : Bool := (s.toList == [78, 117, 108, 108, 69, 114, 114, 111, 114]) || (s.toList == [65, 114, 105, 116, 104, 69, 114, 114, 111, 114]) || (s.toList == [66, 111, 117, 110, 100, 115, 69, 114, 114, 111, 114]) || (s.toList == [67, 97, 115, 116, 69, 114, 114, 111, 114]) || (s.toList == [83, 116, 111, 114, 101, 69, 114, 114, 111, 114]) || (s.toList == [83, 105, 122, 101, 69, 114, 114, 111, 114]) || (s.toList == [83, 116, 97, 116, 101, 69, 114, 114, 111, 114]) || (s.toList == [76, 105, 110, 107, 69, 114, 114, 111, 114]) || (s.toList == [73, 110, 105, 116, 69, 114, 114, 111, 114]) || (s.toList == [83, 116, 111, 112, 69, 114, 114, 111, 114])
def isBootB (s : ByteArray) : Bool := bootB s || errsB s
def errTab : List Value := [.string ⟨#[78, 117, 108, 108, 69, 114, 114, 111, 114]⟩, .string ⟨#[65, 114, 105, 116, 104, 69, 114, 114, 111, 114]⟩, .string ⟨#[66, 111, 117, 110, 100, 115, 69, 114, 114, 111, 114]⟩, .string ⟨#[67, 97, 115, 116, 69, 114, 114, 111, 114]⟩, .string ⟨#[83, 116, 111, 114, 101, 69, 114, 114, 111, 114]⟩, .string ⟨#[83, 105, 122, 101, 69, 114, 114, 111, 114]⟩, .string ⟨#[83, 116, 97, 116, 101, 69, 114, 114, 111, 114]⟩, .string ⟨#[76, 105, 110, 107, 69, 114, 114, 111, 114]⟩, .string ⟨#[73, 110, 105, 116, 69, 114, 114, 111, 114]⟩, .string ⟨#[83, 116, 111, 112, 69, 114, 114, 111, 114]⟩]
def BootEnv (W : World) : Prop := W.rangeAt 0 0 errTab ∧ 0 < W.heap.size
theorem BootEnv.kept {W W' : World} (h : BootEnv W) (hb : Below W.heap.size W W') : BootEnv W' := ⟨rangeAt_same (Same.below hb) (Nat.zero_le _) h.2 h.1, Nat.lt_of_lt_of_le h.2 hb.size⟩
theorem idx0 (W : World) : (Instr.index 145 (.agg #[.string ⟨#[78, 117, 108, 108, 69, 114, 114, 111, 114]⟩, .string ⟨#[65, 114, 105, 116, 104, 69, 114, 114, 111, 114]⟩, .string ⟨#[66, 111, 117, 110, 100, 115, 69, 114, 114, 111, 114]⟩, .string ⟨#[67, 97, 115, 116, 69, 114, 114, 111, 114]⟩, .string ⟨#[83, 116, 111, 114, 101, 69, 114, 114, 111, 114]⟩, .string ⟨#[83, 105, 122, 101, 69, 114, 114, 111, 114]⟩, .string ⟨#[83, 116, 97, 116, 101, 69, 114, 114, 111, 114]⟩, .string ⟨#[76, 105, 110, 107, 69, 114, 114, 111, 114]⟩, .string ⟨#[73, 110, 105, 116, 69, 114, 114, 111, 114]⟩, .string ⟨#[83, 116, 111, 112, 69, 114, 114, 111, 114]⟩]) (.int .i64 0)).run Tryz.prog W = .ok (.string ⟨#[78, 117, 108, 108, 69, 114, 114, 111, 114]⟩) W := by kernel_rfl
theorem idx1 (W : World) : (Instr.index 145 (.agg #[.string ⟨#[78, 117, 108, 108, 69, 114, 114, 111, 114]⟩, .string ⟨#[65, 114, 105, 116, 104, 69, 114, 114, 111, 114]⟩, .string ⟨#[66, 111, 117, 110, 100, 115, 69, 114, 114, 111, 114]⟩, .string ⟨#[67, 97, 115, 116, 69, 114, 114, 111, 114]⟩, .string ⟨#[83, 116, 111, 114, 101, 69, 114, 114, 111, 114]⟩, .string ⟨#[83, 105, 122, 101, 69, 114, 114, 111, 114]⟩, .string ⟨#[83, 116, 97, 116, 101, 69, 114, 114, 111, 114]⟩, .string ⟨#[76, 105, 110, 107, 69, 114, 114, 111, 114]⟩, .string ⟨#[73, 110, 105, 116, 69, 114, 114, 111, 114]⟩, .string ⟨#[83, 116, 111, 112, 69, 114, 114, 111, 114]⟩]) (.int .i64 1)).run Tryz.prog W = .ok (.string ⟨#[65, 114, 105, 116, 104, 69, 114, 114, 111, 114]⟩) W := by kernel_rfl
theorem idx2 (W : World) : (Instr.index 145 (.agg #[.string ⟨#[78, 117, 108, 108, 69, 114, 114, 111, 114]⟩, .string ⟨#[65, 114, 105, 116, 104, 69, 114, 114, 111, 114]⟩, .string ⟨#[66, 111, 117, 110, 100, 115, 69, 114, 114, 111, 114]⟩, .string ⟨#[67, 97, 115, 116, 69, 114, 114, 111, 114]⟩, .string ⟨#[83, 116, 111, 114, 101, 69, 114, 114, 111, 114]⟩, .string ⟨#[83, 105, 122, 101, 69, 114, 114, 111, 114]⟩, .string ⟨#[83, 116, 97, 116, 101, 69, 114, 114, 111, 114]⟩, .string ⟨#[76, 105, 110, 107, 69, 114, 114, 111, 114]⟩, .string ⟨#[73, 110, 105, 116, 69, 114, 114, 111, 114]⟩, .string ⟨#[83, 116, 111, 112, 69, 114, 114, 111, 114]⟩]) (.int .i64 2)).run Tryz.prog W = .ok (.string ⟨#[66, 111, 117, 110, 100, 115, 69, 114, 114, 111, 114]⟩) W := by kernel_rfl
theorem idx3 (W : World) : (Instr.index 145 (.agg #[.string ⟨#[78, 117, 108, 108, 69, 114, 114, 111, 114]⟩, .string ⟨#[65, 114, 105, 116, 104, 69, 114, 114, 111, 114]⟩, .string ⟨#[66, 111, 117, 110, 100, 115, 69, 114, 114, 111, 114]⟩, .string ⟨#[67, 97, 115, 116, 69, 114, 114, 111, 114]⟩, .string ⟨#[83, 116, 111, 114, 101, 69, 114, 114, 111, 114]⟩, .string ⟨#[83, 105, 122, 101, 69, 114, 114, 111, 114]⟩, .string ⟨#[83, 116, 97, 116, 101, 69, 114, 114, 111, 114]⟩, .string ⟨#[76, 105, 110, 107, 69, 114, 114, 111, 114]⟩, .string ⟨#[73, 110, 105, 116, 69, 114, 114, 111, 114]⟩, .string ⟨#[83, 116, 111, 112, 69, 114, 114, 111, 114]⟩]) (.int .i64 3)).run Tryz.prog W = .ok (.string ⟨#[67, 97, 115, 116, 69, 114, 114, 111, 114]⟩) W := by kernel_rfl
theorem idx4 (W : World) : (Instr.index 145 (.agg #[.string ⟨#[78, 117, 108, 108, 69, 114, 114, 111, 114]⟩, .string ⟨#[65, 114, 105, 116, 104, 69, 114, 114, 111, 114]⟩, .string ⟨#[66, 111, 117, 110, 100, 115, 69, 114, 114, 111, 114]⟩, .string ⟨#[67, 97, 115, 116, 69, 114, 114, 111, 114]⟩, .string ⟨#[83, 116, 111, 114, 101, 69, 114, 114, 111, 114]⟩, .string ⟨#[83, 105, 122, 101, 69, 114, 114, 111, 114]⟩, .string ⟨#[83, 116, 97, 116, 101, 69, 114, 114, 111, 114]⟩, .string ⟨#[76, 105, 110, 107, 69, 114, 114, 111, 114]⟩, .string ⟨#[73, 110, 105, 116, 69, 114, 114, 111, 114]⟩, .string ⟨#[83, 116, 111, 112, 69, 114, 114, 111, 114]⟩]) (.int .i64 4)).run Tryz.prog W = .ok (.string ⟨#[83, 116, 111, 114, 101, 69, 114, 114, 111, 114]⟩) W := by kernel_rfl
theorem idx5 (W : World) : (Instr.index 145 (.agg #[.string ⟨#[78, 117, 108, 108, 69, 114, 114, 111, 114]⟩, .string ⟨#[65, 114, 105, 116, 104, 69, 114, 114, 111, 114]⟩, .string ⟨#[66, 111, 117, 110, 100, 115, 69, 114, 114, 111, 114]⟩, .string ⟨#[67, 97, 115, 116, 69, 114, 114, 111, 114]⟩, .string ⟨#[83, 116, 111, 114, 101, 69, 114, 114, 111, 114]⟩, .string ⟨#[83, 105, 122, 101, 69, 114, 114, 111, 114]⟩, .string ⟨#[83, 116, 97, 116, 101, 69, 114, 114, 111, 114]⟩, .string ⟨#[76, 105, 110, 107, 69, 114, 114, 111, 114]⟩, .string ⟨#[73, 110, 105, 116, 69, 114, 114, 111, 114]⟩, .string ⟨#[83, 116, 111, 112, 69, 114, 114, 111, 114]⟩]) (.int .i64 5)).run Tryz.prog W = .ok (.string ⟨#[83, 105, 122, 101, 69, 114, 114, 111, 114]⟩) W := by kernel_rfl
theorem idx6 (W : World) : (Instr.index 145 (.agg #[.string ⟨#[78, 117, 108, 108, 69, 114, 114, 111, 114]⟩, .string ⟨#[65, 114, 105, 116, 104, 69, 114, 114, 111, 114]⟩, .string ⟨#[66, 111, 117, 110, 100, 115, 69, 114, 114, 111, 114]⟩, .string ⟨#[67, 97, 115, 116, 69, 114, 114, 111, 114]⟩, .string ⟨#[83, 116, 111, 114, 101, 69, 114, 114, 111, 114]⟩, .string ⟨#[83, 105, 122, 101, 69, 114, 114, 111, 114]⟩, .string ⟨#[83, 116, 97, 116, 101, 69, 114, 114, 111, 114]⟩, .string ⟨#[76, 105, 110, 107, 69, 114, 114, 111, 114]⟩, .string ⟨#[73, 110, 105, 116, 69, 114, 114, 111, 114]⟩, .string ⟨#[83, 116, 111, 112, 69, 114, 114, 111, 114]⟩]) (.int .i64 6)).run Tryz.prog W = .ok (.string ⟨#[83, 116, 97, 116, 101, 69, 114, 114, 111, 114]⟩) W := by kernel_rfl
theorem idx7 (W : World) : (Instr.index 145 (.agg #[.string ⟨#[78, 117, 108, 108, 69, 114, 114, 111, 114]⟩, .string ⟨#[65, 114, 105, 116, 104, 69, 114, 114, 111, 114]⟩, .string ⟨#[66, 111, 117, 110, 100, 115, 69, 114, 114, 111, 114]⟩, .string ⟨#[67, 97, 115, 116, 69, 114, 114, 111, 114]⟩, .string ⟨#[83, 116, 111, 114, 101, 69, 114, 114, 111, 114]⟩, .string ⟨#[83, 105, 122, 101, 69, 114, 114, 111, 114]⟩, .string ⟨#[83, 116, 97, 116, 101, 69, 114, 114, 111, 114]⟩, .string ⟨#[76, 105, 110, 107, 69, 114, 114, 111, 114]⟩, .string ⟨#[73, 110, 105, 116, 69, 114, 114, 111, 114]⟩, .string ⟨#[83, 116, 111, 112, 69, 114, 114, 111, 114]⟩]) (.int .i64 7)).run Tryz.prog W = .ok (.string ⟨#[76, 105, 110, 107, 69, 114, 114, 111, 114]⟩) W := by kernel_rfl
theorem idx8 (W : World) : (Instr.index 145 (.agg #[.string ⟨#[78, 117, 108, 108, 69, 114, 114, 111, 114]⟩, .string ⟨#[65, 114, 105, 116, 104, 69, 114, 114, 111, 114]⟩, .string ⟨#[66, 111, 117, 110, 100, 115, 69, 114, 114, 111, 114]⟩, .string ⟨#[67, 97, 115, 116, 69, 114, 114, 111, 114]⟩, .string ⟨#[83, 116, 111, 114, 101, 69, 114, 114, 111, 114]⟩, .string ⟨#[83, 105, 122, 101, 69, 114, 114, 111, 114]⟩, .string ⟨#[83, 116, 97, 116, 101, 69, 114, 114, 111, 114]⟩, .string ⟨#[76, 105, 110, 107, 69, 114, 114, 111, 114]⟩, .string ⟨#[73, 110, 105, 116, 69, 114, 114, 111, 114]⟩, .string ⟨#[83, 116, 111, 112, 69, 114, 114, 111, 114]⟩]) (.int .i64 8)).run Tryz.prog W = .ok (.string ⟨#[73, 110, 105, 116, 69, 114, 114, 111, 114]⟩) W := by kernel_rfl
theorem idx9 (W : World) : (Instr.index 145 (.agg #[.string ⟨#[78, 117, 108, 108, 69, 114, 114, 111, 114]⟩, .string ⟨#[65, 114, 105, 116, 104, 69, 114, 114, 111, 114]⟩, .string ⟨#[66, 111, 117, 110, 100, 115, 69, 114, 114, 111, 114]⟩, .string ⟨#[67, 97, 115, 116, 69, 114, 114, 111, 114]⟩, .string ⟨#[83, 116, 111, 114, 101, 69, 114, 114, 111, 114]⟩, .string ⟨#[83, 105, 122, 101, 69, 114, 114, 111, 114]⟩, .string ⟨#[83, 116, 97, 116, 101, 69, 114, 114, 111, 114]⟩, .string ⟨#[76, 105, 110, 107, 69, 114, 114, 111, 114]⟩, .string ⟨#[73, 110, 105, 116, 69, 114, 114, 111, 114]⟩, .string ⟨#[83, 116, 111, 112, 69, 114, 114, 111, 114]⟩]) (.int .i64 9)).run Tryz.prog W = .ok (.string ⟨#[83, 116, 111, 112, 69, 114, 114, 111, 114]⟩) W := by kernel_rfl
theorem isBoot_calls (s : ByteArray) (w : World) (he : BootEnv w) : Calls Tryz.prog 83 #[.string s] w fun e w' => e = .returned (.bool (isBootB s)) ∧ w' = w := by
 have hr := he.1
 have j0 := idx0
 have j1 := idx1
 have j2 := idx2
 have j3 := idx3
 have j4 := idx4
 have j5 := idx5
 have j6 := idx6
 have j7 := idx7
 have j8 := idx8
 have j9 := idx9
 have c0 : w.cell? ⟨0, 0, none⟩ = some (.string ⟨#[78, 117, 108, 108, 69, 114, 114, 111, 114]⟩) := hr 0 _ rfl
 have c1 : w.cell? ⟨0, 1, none⟩ = some (.string ⟨#[65, 114, 105, 116, 104, 69, 114, 114, 111, 114]⟩) := hr 1 _ rfl
 have c2 : w.cell? ⟨0, 2, none⟩ = some (.string ⟨#[66, 111, 117, 110, 100, 115, 69, 114, 114, 111, 114]⟩) := hr 2 _ rfl
 have c3 : w.cell? ⟨0, 3, none⟩ = some (.string ⟨#[67, 97, 115, 116, 69, 114, 114, 111, 114]⟩) := hr 3 _ rfl
 have c4 : w.cell? ⟨0, 4, none⟩ = some (.string ⟨#[83, 116, 111, 114, 101, 69, 114, 114, 111, 114]⟩) := hr 4 _ rfl
 have c5 : w.cell? ⟨0, 5, none⟩ = some (.string ⟨#[83, 105, 122, 101, 69, 114, 114, 111, 114]⟩) := hr 5 _ rfl
 have c6 : w.cell? ⟨0, 6, none⟩ = some (.string ⟨#[83, 116, 97, 116, 101, 69, 114, 114, 111, 114]⟩) := hr 6 _ rfl
 have c7 : w.cell? ⟨0, 7, none⟩ = some (.string ⟨#[76, 105, 110, 107, 69, 114, 114, 111, 114]⟩) := hr 7 _ rfl
 have c8 : w.cell? ⟨0, 8, none⟩ = some (.string ⟨#[73, 110, 105, 116, 69, 114, 114, 111, 114]⟩) := hr 8 _ rfl
 have c9 : w.cell? ⟨0, 9, none⟩ = some (.string ⟨#[83, 116, 111, 112, 69, 114, 114, 111, 114]⟩) := hr 9 _ rfl
 clear hr he
 obtain ⟨R, hR⟩ : ∃ R, isBootB s = R := ⟨_, rfl⟩
 rw [hR]
 unfold isBootB bootB errsB at hR
 have hRH : Hid (_ = R) := hR
 clear hR
 cases h0 : (s.toList == [79, 98, 106, 101, 99, 116]) with
 | true =>
  go_enter Tryz.func83, Tryz.ntmps83
  go_wp2
  go_ret
  exact ⟨by rw [← hRH.out, h0]; rfl, rfl⟩
 | false =>
 cases h1 : (s.toList == [83, 116, 114, 105, 110, 103]) with
 | true =>
  go_enter Tryz.func83, Tryz.ntmps83
  go_wp2
  go_ret
  exact ⟨by rw [← hRH.out, h0, h1]; rfl, rfl⟩
 | false =>
 cases h2 : (s.toList == [84, 104, 114, 111, 119, 97, 98, 108, 101]) with
 | true =>
  go_enter Tryz.func83, Tryz.ntmps83
  go_wp2
  go_ret
  exact ⟨by rw [← hRH.out, h0, h1, h2]; rfl, rfl⟩
 | false =>
 cases h3 : (s.toList == [69, 114, 114, 111, 114]) with
 | true =>
  go_enter Tryz.func83, Tryz.ntmps83
  go_wp2
  go_ret
  exact ⟨by rw [← hRH.out, h0, h1, h2, h3]; rfl, rfl⟩
 | false =>
 cases h4 : (s.toList == [84, 104, 114, 101, 97, 100]) with
 | true =>
  go_enter Tryz.func83, Tryz.ntmps83
  go_wp2
  go_ret
  exact ⟨by rw [← hRH.out, h0, h1, h2, h3, h4]; rfl, rfl⟩
 | false =>
 cases h5 : (s.toList == [83, 121, 115, 116, 101, 109]) with
 | true =>
  go_enter Tryz.func83, Tryz.ntmps83
  go_wp2
  go_ret
  exact ⟨by rw [← hRH.out, h0, h1, h2, h3, h4, h5]; rfl, rfl⟩
 | false =>
 go_enter Tryz.func83, Tryz.ntmps83
 go_wp2
 refine wp_loop_rounds 11 ?_
 rw [rounds_succ]
 cases e0 : (s.toList == [78, 117, 108, 108, 69, 114, 114, 111, 114]) with
 | true =>
  go_wp2
  go_ret
  exact ⟨by rw [← hRH.out, h0, h1, h2, h3, h4, h5, e0]; rfl, rfl⟩
 | false =>
 go_wp2
 rw [rounds_succ]
 cases e1 : (s.toList == [65, 114, 105, 116, 104, 69, 114, 114, 111, 114]) with
 | true =>
  go_wp2
  go_ret
  exact ⟨by rw [← hRH.out, h0, h1, h2, h3, h4, h5, e0, e1]; rfl, rfl⟩
 | false =>
 go_wp2
 rw [rounds_succ]
 cases e2 : (s.toList == [66, 111, 117, 110, 100, 115, 69, 114, 114, 111, 114]) with
 | true =>
  go_wp2
  go_ret
  exact ⟨by rw [← hRH.out, h0, h1, h2, h3, h4, h5, e0, e1, e2]; rfl, rfl⟩
 | false =>
 go_wp2
 rw [rounds_succ]
 cases e3 : (s.toList == [67, 97, 115, 116, 69, 114, 114, 111, 114]) with
 | true =>
  go_wp2
  go_ret
  exact ⟨by rw [← hRH.out, h0, h1, h2, h3, h4, h5, e0, e1, e2, e3]; rfl, rfl⟩
 | false =>
 go_wp2
 rw [rounds_succ]
 cases e4 : (s.toList == [83, 116, 111, 114, 101, 69, 114, 114, 111, 114]) with
 | true =>
  go_wp2
  go_ret
  exact ⟨by rw [← hRH.out, h0, h1, h2, h3, h4, h5, e0, e1, e2, e3, e4]; rfl, rfl⟩
 | false =>
 go_wp2
 rw [rounds_succ]
 cases e5 : (s.toList == [83, 105, 122, 101, 69, 114, 114, 111, 114]) with
 | true =>
  go_wp2
  go_ret
  exact ⟨by rw [← hRH.out, h0, h1, h2, h3, h4, h5, e0, e1, e2, e3, e4, e5]; rfl, rfl⟩
 | false =>
 go_wp2
 rw [rounds_succ]
 cases e6 : (s.toList == [83, 116, 97, 116, 101, 69, 114, 114, 111, 114]) with
 | true =>
  go_wp2
  go_ret
  exact ⟨by rw [← hRH.out, h0, h1, h2, h3, h4, h5, e0, e1, e2, e3, e4, e5, e6]; rfl, rfl⟩
 | false =>
 go_wp2
 rw [rounds_succ]
 cases e7 : (s.toList == [76, 105, 110, 107, 69, 114, 114, 111, 114]) with
 | true =>
  go_wp2
  go_ret
  exact ⟨by rw [← hRH.out, h0, h1, h2, h3, h4, h5, e0, e1, e2, e3, e4, e5, e6, e7]; rfl, rfl⟩
 | false =>
 go_wp2
 rw [rounds_succ]
 cases e8 : (s.toList == [73, 110, 105, 116, 69, 114, 114, 111, 114]) with
 | true =>
  go_wp2
  go_ret
  exact ⟨by rw [← hRH.out, h0, h1, h2, h3, h4, h5, e0, e1, e2, e3, e4, e5, e6, e7, e8]; rfl, rfl⟩
 | false =>
 go_wp2
 rw [rounds_succ]
 cases e9 : (s.toList == [83, 116, 111, 112, 69, 114, 114, 111, 114]) with
 | true =>
  go_wp2
  go_ret
  exact ⟨by rw [← hRH.out, h0, h1, h2, h3, h4, h5, e0, e1, e2, e3, e4, e5, e6, e7, e8, e9]; rfl, rfl⟩
 | false =>
 go_wp2
 rw [rounds_succ]
 go_wp2
 go_ret
 exact ⟨by rw [← hRH.out, h0, h1, h2, h3, h4, h5, e0, e1, e2, e3, e4, e5, e6, e7, e8, e9]; rfl, rfl⟩
def ownB (x : ClassL) : Bool := classI x && !isBootB x.name
theorem classKey_calls (x : ClassL) (w : World) (a1 : Option Addr) (n1 c1 : Nat) (a2 : Option Addr) (n2 c2 : Nat) (a3 : Option Addr) (n3 c3 : Nat) (a4 : Option Addr) (n4 c4 : Nat) : Calls Tryz.prog 80 #[.agg #[.string x.name, .string x.super, .slice a1 n1 c1, .int .i64 x.flags, .slice a2 n2 c2, .slice a3 n3 c3, .slice a4 n4 c4]] w fun e w' => e = .returned (.string x.name) ∧ ∃ o, w' = w.alloc o := by
 go_enter Tryz.func80, Tryz.ntmps80
 go_wp2
 go_ret
 exact ⟨rfl, _, rfl⟩
theorem own_calls (x : ClassL) (w : World) (row : List Value) (lo hi : Nat) (hh : hi ≤ w.heap.size) (hx : ClassR true lo hi w row x) (hy : x.small) (hw : x.wide) (he : EnvOk w) (hbe : BootEnv w) : Calls Tryz.prog 81 #[.agg row.toArray] w fun e w' => e = .returned (.bool (ownB x)) ∧ Below w.heap.size w w' := by
 have cH : Hid (∀ W, Below w.heap.size w W → Calls Tryz.prog 82 #[.agg row.toArray] W fun e w' => e = .returned (.bool (classI x)) ∧ Below W.heap.size W w') := fun W hW =>
  implClass_calls x W row lo hi (Nat.le_trans hh hW.size) (ClassR.stable _ _ _ _ _ _ _ _ _ hx (Nat.le_refl _) (Nat.le_refl _) ((Same.below hW).mono (Nat.zero_le _) hh)) hy hw (he.kept hW)
 have bH : Hid (∀ W, Below w.heap.size w W → Calls Tryz.prog 83 #[.string x.name] W fun e w' => e = .returned (.bool (isBootB x.name)) ∧ w' = W) := fun W hW => isBoot_calls x.name W (hbe.kept hW)
 obtain ⟨p1, p2, p3, p4, rfl, f1, f2, f3, f4⟩ := hx
 obtain ⟨a1, c1, rfl⟩ := f1.form
 obtain ⟨a2, c2, rfl⟩ := f2.form
 obtain ⟨a3, c3, rfl⟩ := f3.form
 obtain ⟨a4, c4, rfl⟩ := f4.form
 clear f1 f2 f3 f4 hy hw he hbe hh
 unfold ownB
 generalize x.ifs.length = n1 at *
 generalize x.perms.length = n2 at *
 generalize x.fields.length = n3 at *
 generalize x.meths.length = n4 at *
 generalize classI x = cb at *
 generalize isBootB x.name = bb at *
 go_enter Tryz.func81, Tryz.ntmps81
 go_wp2_with fail
 obtain ⟨W0, hW0⟩ : ∃ W : World, W = w.alloc (.cells #[.string x.name, .string x.super, .slice a1 n1 c1, .int .i64 x.flags, .slice a2 n2 c2, .slice a3 n3 c3, .slice a4 n4 c4] 49) := ⟨_, rfl⟩
 rw [← hW0]
 have r0 : Hid (Rec1 w W0 [.string x.name, .string x.super, .slice a1 n1 c1, .int .i64 x.flags, .slice a2 n2 c2, .slice a3 n3 c3, .slice a4 n4 c4]) := Rec1.start hW0
 clear hW0
 refine (cH.out W0 r0.out.hb).mono ?_
 rintro e w1 ⟨rfl, hb1⟩
 have r1 : Hid (Rec1 w w1 [.string x.name, .string x.super, .slice a1 n1 c1, .int .i64 x.flags, .slice a2 n2 c2, .slice a3 n3 c3, .slice a4 n4 c4]) := r0.out.call hb1
 have y0 := r1.out.cell 0 _ rfl
 clear hb1
 cases cb with
 | false =>
  go_wp2
  go_ret
  exact ⟨rfl, r1.out.hb⟩
 | true =>
  go_wp2_with fail
  refine (bH.out w1 r1.out.hb).mono ?_
  rintro e w2 ⟨rfl, hw2⟩
  subst w2
  go_wp2
  go_ret
  exact ⟨rfl, r1.out.hb⟩
theorem allOwn_calls (p : ClassL → Bool) (v : Value) (xs : List ClassL) (w : World) (lo hi : Nat) (hh : hi ≤ w.heap.size) (ht : ListAt ClassR 7 true lo hi w v xs) (hn : xs.length ≤ 1048576)
  (hG : ∀ x ∈ xs, ∀ (W : World) (row : List Value), Below w.heap.size w W → ClassR true lo hi W row x → Calls Tryz.prog 81 #[.agg row.toArray] W fun e w' => e = .returned (.bool (p x)) ∧ Below W.heap.size W w') :
  Calls Tryz.prog 84 #[v, .func (.func 81) #[] #[]] w fun e w' => e = .returned (.bool (xs.all p)) ∧ Below w.heap.size w w' := by
 obtain ⟨a, c, rfl⟩ := ht.form
 have htH : Hid (∀ W, Below w.heap.size w W → ListAt ClassR 7 true lo hi W (.slice a xs.length c) xs) := fun W hW => ht.kept ClassR.stable (Nat.le_refl _) (Nat.le_refl _) ((Same.below hW).mono (Nat.zero_le _) hh)
 have gH : Hid (∀ x ∈ xs, ∀ (W : World) (row : List Value), Below w.heap.size w W → ClassR true lo hi W row x → Calls Tryz.prog 81 #[.agg row.toArray] W fun e w' => e = .returned (.bool (p x)) ∧ Below W.heap.size W w') := hG
 have hhH : Hid (hi ≤ w.heap.size) := hh
 have isz : Hid ((Tryz.prog.info? 49).map (·.size) = some 7) := by show (Tryz.prog.info? 49).map (·.size) = some 7; kernel_rfl
 obtain ⟨R, hR⟩ : ∃ R, xs.all p = R := ⟨_, rfl⟩
 rw [hR]
 have hRH : Hid (xs.all p = R) := hR
 clear hR ht hh hG
 go_enter Tryz.func84, Tryz.ntmps84
 go_wp2
 go_loopw [9] (fun i wr => ∃ m : Nat, m ≤ xs.length ∧ i = .int .i64 m ∧ Hid ((xs.drop m).all p = R) ∧ Hid (Below w.heap.size w wr)) (fun i _ => xs.length - (intOf i).toNat)
 case atStart => exact ⟨0, Nat.zero_le _, rfl, hRH.out, Below.refl _ _⟩
 case round =>
  obtain ⟨m, hm, rfl, hz, hB⟩ := hrel
  by_cases hlt : m < xs.length
  ·obtain ⟨b, off, row, rfl, hbb, hrl, hrr, hrx⟩ := (htH.out wr hB.out).at m hlt
   have hlt' : (m : Int) < (xs.length : Int) := by omega
   have hmem := List.getElem_mem hlt
   have hdr := List.drop_eq_getElem_cons hlt
   obtain ⟨x, hxm⟩ : ∃ x, x = xs[m] := ⟨_, rfl⟩
   rw [← hxm] at hrx hdr hmem
   have hc : Hid (∀ W, Below wr.heap.size wr W → Calls Tryz.prog 81 #[.agg row.toArray] W fun e w' => e = .returned (.bool (p x)) ∧ Below W.heap.size W w') := fun W hW =>
    gH.out x hmem W row (below_on2 hB.out hW) (ClassR.stable _ _ _ _ _ _ _ _ _ hrx (Nat.le_refl _) (Nat.le_refl _) ((Same.below hW).mono (Nat.zero_le _) (by have := hhH.out; have := hB.out.size; omega)))
   obtain ⟨p1, p2, p3, p4, rfl, f1, f2, f3, f4⟩ := hrx
   obtain ⟨a1, c1, rfl⟩ := f1.form
   obtain ⟨a2, c2, rfl⟩ := f2.form
   obtain ⟨a3, c3, rfl⟩ := f3.form
   obtain ⟨a4, c4, rfl⟩ := f4.form
   clear f1 f2 f3 f4
   generalize x.ifs.length = n1 at *
   generalize x.perms.length = n2 at *
   generalize x.fields.length = n3 at *
   generalize x.meths.length = n4 at *
   have hstep : Hid (R = (p x && (xs.drop (m + 1)).all p)) := by
    have := hz.out
    rw [hdr] at this
    exact this.symm
   obtain ⟨ib, hib⟩ : ∃ ib, p x = ib := ⟨_, rfl⟩
   rw [hib] at hstep hc
   have hrrH : Hid (wr.rangeAt b (off + m * 7) [.string x.name, .string x.super, .slice a1 n1 c1, .int .i64 x.flags, .slice a2 n2 c2, .slice a3 n3 c3, .slice a4 n4 c4]) := hrr
   have hBn : Hid (Below w.heap.size w (wr.alloc (.cells #[.string x.name, .string x.super, .slice a1 n1 c1, .int .i64 x.flags, .slice a2 n2 c2, .slice a3 n3 c3, .slice a4 n4 c4] 49))) := below_on2 hB.out (below_1 _ _)
   clear hrr hrl hxm hdr hmem hib
   cases ib with
   | false =>
    go_wp2_with (first | (refine wpList_load_mid rfl 49 _ rfl b (off + m * 7) (by first | rfl | (simp; done)) _ _ hrrH.out Tryz.underlying49 rfl isz.out ?_) | (go_at_call 81; refine (hc.out _ (below_1 _ _)).mono ?_; rintro e w2 ⟨rfl, hb2⟩))
    go_ret
    exact ⟨by rw [hstep.out]; rfl, below_on2 hBn.out hb2⟩
   | true =>
    go_wp2_with (first | (refine wpList_load_mid rfl 49 _ rfl b (off + m * 7) (by first | rfl | (simp; done)) _ _ hrrH.out Tryz.underlying49 rfl isz.out ?_) | (go_at_call 81; refine (hc.out _ (below_1 _ _)).mono ?_; rintro e w2 ⟨rfl, hb2⟩))
    go_roundw
    case rel => exact ⟨m + 1, by omega, by go_num, (show _ = R by rw [hstep.out]; rfl), below_on2 hBn.out hb2⟩
    case measure => simp [intOf]; omega
  ·have hend := hz.out
   rw [List.drop_eq_nil_of_le (by omega)] at hend
   have hR : R = true := hend.symm
   subst hR
   clear hend
   go_wp2
   go_ret
   exact ⟨rfl, hB.out⟩
theorem differC_calls (v : Value) (xs : List ClassL) (w : World) (lo hi : Nat) (hh : hi ≤ w.heap.size) (ht : ListAt ClassR 7 true lo hi w v xs) (hn : xs.length ≤ 1048576) (hs : ∀ x ∈ xs, x.small) :
  Calls Tryz.prog 85 #[v, .func (.func 80) #[] #[]] w fun e w' => e = .returned (.bool (decide ((xs.map (fun x : ClassL => strLit x.name)).Nodup))) ∧ Below w.heap.size w w' := by
 have hmm := run_makeMap_hint (P := Tryz.prog) Tryz.underlying146
 obtain ⟨a, c, rfl⟩ := ht.form
 have htH : Hid (∀ W, Below w.heap.size w W → ListAt ClassR 7 true lo hi W (.slice a xs.length c) xs) := fun W hW => ht.kept ClassR.stable (Nat.le_refl _) (Nat.le_refl _) ((Same.below hW).mono (Nat.zero_le _) hh)
 have hsH : Hid (∀ x ∈ xs, x.small) := hs
 have isz : Hid ((Tryz.prog.info? 49).map (·.size) = some 7) := by show (Tryz.prog.info? 49).map (·.size) = some 7; kernel_rfl
 have hfin : Hid (size (setD (fun x : ClassL => strLit x.name) xs xs.length) = xs.length ↔ (xs.map (fun x : ClassL => strLit x.name)).Nodup) := setD_size _ _
 obtain ⟨R, hR⟩ : ∃ R, decide ((xs.map (fun x : ClassL => strLit x.name)).Nodup) = R := ⟨_, rfl⟩
 rw [hR]
 have hRH : Hid (decide ((xs.map (fun x : ClassL => strLit x.name)).Nodup) = R) := hR
 clear hR ht hh hs
 go_enter Tryz.func85, Tryz.ntmps85
 go_wp2
 go_loopw [13] (fun i wr => ∃ m : Nat, m ≤ xs.length ∧ i = .int .i64 m ∧ Hid (wr.ownsMap Tryz.prog 9 unitElem w.heap.size m (setD (fun x : ClassL => strLit x.name) xs m)) ∧ Hid (Below w.heap.size w wr)) (fun i _ => xs.length - (intOf i).toNat)
 case atStart => exact ⟨0, Nat.zero_le _, rfl, World.ownsMap_made _ _ _ _, below_1 _ _⟩
 case round =>
  obtain ⟨m, hm, rfl, hO, hB⟩ := hrel
  clear hmm
  by_cases hlt : m < xs.length
  ·obtain ⟨b, off, row, rfl, hbb, hrl, hrr, hrx⟩ := (htH.out wr hB.out).at m hlt
   have hlt' : (m : Int) < (xs.length : Int) := by omega
   have hsucc := setD_succ (fun x : ClassL => strLit x.name) xs m hlt
   have hsm := hsH.out _ (List.getElem_mem hlt)
   obtain ⟨x, hxm⟩ : ∃ x, x = xs[m] := ⟨_, rfl⟩
   rw [← hxm] at hrx hsucc hsm
   obtain ⟨p1, p2, p3, p4, rfl, f1, f2, f3, f4⟩ := hrx
   obtain ⟨a1, c1, rfl⟩ := f1.form
   obtain ⟨a2, c2, rfl⟩ := f2.form
   obtain ⟨a3, c3, rfl⟩ := f3.form
   obtain ⟨a4, c4, rfl⟩ := f4.form
   clear f1 f2 f3 f4
   generalize x.ifs.length = n1 at *
   generalize x.perms.length = n2 at *
   generalize x.fields.length = n3 at *
   generalize x.meths.length = n4 at *
   have hkey : Hid (keyOf Tryz.prog 9 (.string x.name) = some (.string ((fun x : ClassL => strLit x.name) x))) := keyOf_string_mk Tryz.underlying9 (by unfold maxLen; have := hsm.1; omega)
   have hsuccH : Hid (setD (fun x : ClassL => strLit x.name) xs (m + 1) = (setD (fun x : ClassL => strLit x.name) xs m).put (.string ((fun x : ClassL => strLit x.name) x)) (.agg [])) := hsucc
   have hrrH : Hid (wr.rangeAt b (off + m * 7) [.string x.name, .string x.super, .slice a1 n1 c1, .int .i64 x.flags, .slice a2 n2 c2, .slice a3 n3 c3, .slice a4 n4 c4]) := hrr
   clear hsucc hsm hrr hrl hxm
   go_wp2_with (first
    | (refine wpList_load_mid rfl 49 _ rfl b (off + m * 7) (by first | rfl | (simp; done)) _ _ hrrH.out Tryz.underlying49 rfl isz.out ?_)
    | (go_at_call 80; refine (classKey_calls x _ _ _ _ _ _ _ _ _ _ _ _ _).mono ?_; rintro e w2 ⟨rfl, o1, rfl⟩)
    | (at_mapUpdate; refine wpList_mapUpdate_own _ rfl _ _ _ 146 rfl 9 147 law9 Tryz.underlying146 (unitElem (H := Unit)) w.heap.size m _ rfl ((hO.out.alloc _).alloc _) (by unfold maxLen; omega) _ _ _ rfl rfl hkey.out _ [] unitElem_mk ?_; intro w5 hown5 hgrow5))
   go_roundw
   case rel => exact ⟨m + 1, by omega, by go_num, hsuccH.out ▸ hown5, (below_on2 hB.out (below_2 _ _ _)).grown hgrow5 (below_on2 hB.out (below_2 _ _ _)).size (fun j hj => by cases hj; exact Nat.le_refl _)⟩
   case measure => simp [intOf]; omega
  ·have hme : m = xs.length := by omega
   subst hme
   have hle := hO.out.size_le
   cases R with
   | false =>
    have hne : ¬ size (setD (fun x : ClassL => strLit x.name) xs xs.length) = xs.length := fun e => by have h2 := hRH.out; rw [decide_eq_true (hfin.out.1 e)] at h2; cases h2
    go_wp2_with (refine wpList_len_own _ rfl _ 146 rfl 9 147 Tryz.underlying146 _ w.heap.size _ _ rfl hO.out ?_)
    go_ret
    exact ⟨by generalize size (setD (fun x : ClassL => strLit x.name) xs xs.length) = z at *; simp; omega, hB.out⟩
   | true =>
    have he : size (setD (fun x : ClassL => strLit x.name) xs xs.length) = xs.length := hfin.out.2 (of_decide_eq_true hRH.out)
    go_wp2_with (refine wpList_len_own _ rfl _ 146 rfl 9 147 Tryz.underlying146 _ w.heap.size _ _ rfl hO.out ?_)
    go_ret
    exact ⟨by simp, hB.out⟩
def spaceI (xs : List ClassL) : Bool := decide ((xs.length : Int) ≤ 60) && (xs.all ownB && decide ((xs.map fun x => strLit x.name).Nodup))
theorem spaceOk_walk (a : Option Addr) (n c : Nat) (b1 b2 : Bool) (w : World)
  (q1 : ∀ W, Below w.heap.size w W → Calls Tryz.prog 84 #[.slice a n c, .func (.func 81) #[] #[]] W fun e w' => e = .returned (.bool b1) ∧ Below W.heap.size W w')
  (q2 : ∀ W, Below w.heap.size w W → Calls Tryz.prog 85 #[.slice a n c, .func (.func 80) #[] #[]] W fun e w' => e = .returned (.bool b2) ∧ Below W.heap.size W w') :
  Calls Tryz.prog 50 #[.slice a n c] w fun e w' => e = .returned (.bool (decide ((n : Int) ≤ 60) && (b1 && b2))) ∧ Below w.heap.size w w' := by
 have qq1 : Hid (∀ W, Below w.heap.size w W → Calls Tryz.prog 84 #[.slice a n c, .func (.func 81) #[] #[]] W fun e w' => e = .returned (.bool b1) ∧ Below W.heap.size W w') := q1
 have qq2 : Hid (∀ W, Below w.heap.size w W → Calls Tryz.prog 85 #[.slice a n c, .func (.func 80) #[] #[]] W fun e w' => e = .returned (.bool b2) ∧ Below W.heap.size W w') := q2
 clear q1 q2
 by_cases h60 : (n : Int) ≤ 60
 ·rw [decide_eq_true h60]
  cases b1 with
  | false =>
   go_enter Tryz.func50, Tryz.ntmps50
   go_wp2_with (go_at_call 84; refine (qq1.out w (Below.refl _ _)).mono ?_; rintro e w1 ⟨rfl, hb1⟩)
   go_ret
   exact ⟨rfl, hb1⟩
  | true =>
   go_enter Tryz.func50, Tryz.ntmps50
   go_wp2_with (first | (go_at_call 84; refine (qq1.out w (Below.refl _ _)).mono ?_; rintro e w1 ⟨rfl, hb1⟩) | (go_at_call 85; refine (qq2.out w1 hb1).mono ?_; rintro e w2 ⟨rfl, hb2⟩))
   go_ret
   exact ⟨rfl, below_on2 hb1 hb2⟩
 ·rw [decide_eq_false h60]
  go_enter Tryz.func50, Tryz.ntmps50
  go_wp2
  go_ret
  exact ⟨rfl, Below.refl _ _⟩
theorem implSpace_calls (v : Value) (xs : List ClassL) (w : World) (lo hi : Nat) (hh : hi ≤ w.heap.size) (ht : ListAt ClassR 7 true lo hi w v xs) (hn : xs.length ≤ 1048576) (hs : ∀ x ∈ xs, x.small) (hw : ∀ x ∈ xs, x.wide) (he : EnvOk w) (hbe : BootEnv w) :
  Calls Tryz.prog 50 #[v] w fun e w' => e = .returned (.bool (spaceI xs)) ∧ Below w.heap.size w w' := by
 obtain ⟨a, c, rfl⟩ := ht.form
 have kt : ∀ W, Below w.heap.size w W → ListAt ClassR 7 true lo hi W _ xs := fun W hW => ht.kept ClassR.stable (Nat.le_refl _) (Nat.le_refl _) ((Same.below hW).mono (Nat.zero_le _) hh)
 exact spaceOk_walk a _ c _ _ w
  (fun W hW => allOwn_calls ownB _ xs W lo hi (Nat.le_trans hh hW.size) (kt W hW) hn (fun x hx V row hV hr => own_calls x V row lo hi (Nat.le_trans hh (below_on2 hW hV).size) hr (hs x hx) (hw x hx) (he.kept (below_on2 hW hV)) (hbe.kept (below_on2 hW hV))))
  (fun W hW => differC_calls _ xs W lo hi (Nat.le_trans hh hW.size) (kt W hW) hn hs)
def bootNames : List ByteArray := [bn0, bn1, bn2, bn3] ++ bootErrs ++ [bnT, ⟨#[83, 121, 115, 116, 101, 109]⟩]
theorem boot_any (s : ByteArray) : (bootNames.any fun y => y.toList == s.toList) = isBootB s := by
 have c : ∀ l : List UInt8, (l == s.toList) = (s.toList == l) := fun l => by rw [Bool.eq_iff_iff, beq_iff_eq, beq_iff_eq]; exact eq_comm
 unfold isBootB bootB errsB bootNames bootErrs bn0 bn1 bn2 bn3 bnT
 simp only [List.cons_append, List.nil_append, List.any_cons, List.any_nil, Bool.or_false, c]
 simp only [ByteArray.toList_eq]
 ac_rfl
theorem l5IsBoot_calls (s : ByteArray) (w : World) : Calls Tryz.prog 72 #[.string s] w fun e w' => e = .returned (.bool (isBootB s)) ∧ Below w.heap.size w w' := by
 rw [← boot_any]
 obtain ⟨R, hR⟩ : ∃ R, (bootNames.any fun y => y.toList == s.toList) = R := ⟨_, rfl⟩
 rw [hR]
 have hRH : Hid ((bootNames.any fun y => y.toList == s.toList) = R) := hR
 clear hR
 go_enter Tryz.func72, Tryz.ntmps72
 go_wp2_with fail
 refine (specBoot_calls w).mono ?_
 rintro e w1 ⟨⟨u, cells, rfl, ho, hh⟩, hb⟩
 obtain ⟨_, ⟨_, h0⟩ | ⟨g, cap, cur, rfl, hg0, hg1, hg2, hg3, hg4, hg5⟩⟩ := ho
 ·omega
 have hcH : Hid (∀ i (h : i < bootNames.length), w1.cell? ⟨g, i * 7, none⟩ = some (.string bootNames[i])) := fun i h => by
  have h16 : i < 16 := h
  have hh' : Heads cells bootNames := hh
  have h2 := hh'.2 i h
  rw [← hg5, List.getElem?_take_of_lt (by omega)] at h2
  simp only [World.cell?, hg1]
  have e7 : i * 7 = 7 * i := Nat.mul_comm _ _
  rw [e7]
  simpa using h2
 have hbH : Hid (Below w.heap.size w w1) := hb
 clear hh hg0 hg1 hg2 hg3 hg4 hg5 hb
 go_wp2
 go_loopw [4] (fun i wr => ∃ m : Nat, m ≤ 16 ∧ i = .int .i64 m ∧ Hid (((bootNames.drop m).any fun y => y.toList == s.toList) = R) ∧ wr = w1) (fun i _ => 16 - (intOf i).toNat)
 case atStart => exact ⟨0, Nat.zero_le _, rfl, hRH.out, rfl⟩
 case round =>
  obtain ⟨m, hm, rfl, hz, rfl⟩ := hrel
  by_cases hlt : m < 16
  ·have hlt' : (m : Int) < 16 := by omega
   have hltx : m < bootNames.length := hlt
   have hcell := hcH.out m hltx
   have hstep : Hid (R = ((bootNames[m].toList == s.toList) || ((bootNames.drop (m + 1)).any fun y => y.toList == s.toList))) := by
    have := hz.out
    rw [List.drop_eq_getElem_cons hltx] at this
    exact this.symm
   obtain ⟨y, hy⟩ : ∃ y, y = bootNames[m] := ⟨_, rfl⟩
   rw [← hy] at hcell hstep
   clear hz hy hltx
   cases he : (y.toList == s.toList) with
   | true =>
    rw [he] at hstep
    go_wp2
    go_ret
    exact ⟨by rw [hstep.out]; rfl, hbH.out⟩
   | false =>
    rw [he] at hstep
    go_wp2
    go_roundw
    case rel => exact ⟨m + 1, by omega, by go_num, (show _ = R by rw [hstep.out]; rfl), trivial⟩
    case measure => simp [intOf]; omega
  ·have hend := hz.out
   rw [List.drop_eq_nil_of_le (show bootNames.length ≤ m by show 16 ≤ m; omega)] at hend
   have hR : R = false := hend.symm
   subst hR
   clear hend
   go_wp2
   go_ret
   exact ⟨rfl, hbH.out⟩
def ownS (x : ClassL) : Bool := !(!classS x || isBootB x.name)
def clsKey (x : ClassL) : List UInt8 := strLit x.name
def spaceS (xs : List ClassL) : Bool := !decide ((60 : Int) < xs.length) && fresh ownS clsKey [] xs
theorem space_same (xs : List ClassL) (hw : ∀ x ∈ xs, x.wide) : spaceS xs = spaceI xs := by
 unfold spaceS spaceI
 rw [fresh_nil]
 have e1 : (!decide ((60 : Int) < xs.length)) = decide ((xs.length : Int) ≤ 60) := by rw [← decide_not]; apply decide_eq_decide.2; omega
 have e2 : xs.all ownS = xs.all ownB := all_congr fun x hx => by
  unfold ownS ownB
  rw [class_same x (hw x hx).1.1 (hw x hx).1.2 (hw x hx).2.1 (hw x hx).2.2.1]
  cases classI x <;> cases isBootB x.name <;> rfl
 rw [e1, e2]
 rfl
theorem specSpace_walk (a : Option Addr) (n c : Nat) (w : World) (xs : List ClassL) (lo hi : Nat) (hh : hi ≤ w.heap.size) (ht : ListAt ClassR 7 true lo hi w (.slice a n c) xs) (hx : xs.length = n) (hn : n ≤ 1048576) (hs : ∀ x ∈ xs, x.small) :
  Calls Tryz.prog 45 #[.slice a n c] w fun e w' => e = .returned (.bool (spaceS xs)) ∧ Below w.heap.size w w' := by
 have htH : Hid (∀ W, Below w.heap.size w W → ListAt ClassR 7 true lo hi W (.slice a n c) xs) := fun W hW => ht.kept ClassR.stable (Nat.le_refl _) (Nat.le_refl _) ((Same.below hW).mono (Nat.zero_le _) hh)
 have hsH : Hid (∀ x ∈ xs, x.small) := hs
 have hxH : Hid (xs.length = n) := hx
 have hhH : Hid (hi ≤ w.heap.size) := hh
 obtain ⟨R, hR⟩ : ∃ R, spaceS xs = R := ⟨_, rfl⟩
 rw [hR]
 unfold spaceS at hR
 rw [hx] at hR
 by_cases h60 : (60 : Int) < n
 ·rw [decide_eq_true h60] at hR
  have hR : R = false := hR.symm
  subst hR
  clear ht hs hx hh
  go_enter Tryz.func45, Tryz.ntmps45
  go_wp2
  go_ret
  exact ⟨rfl, Below.refl _ _⟩
 rw [decide_eq_false h60] at hR
 have hRH : Hid (fresh ownS clsKey [] xs = R) := by simpa [Hid] using hR
 clear hR ht hs hx hh
 go_enter Tryz.func45, Tryz.ntmps45
 go_wp2
 go_loopw [3] (fun i wr => ∃ m : Nat, m ≤ n ∧ i = .int .i64 m ∧ Hid (fresh ownS clsKey (xs.take m) (xs.drop m) = R) ∧ Hid (Below w.heap.size w wr)) (fun i _ => n - (intOf i).toNat)
 case atStart => exact ⟨0, Nat.zero_le _, rfl, hRH.out, Below.refl _ _⟩
 case round =>
  rename World => wo
  obtain ⟨m, hm, rfl, hz, hB⟩ := hrel
  by_cases hlt : m < n
  ·have hltx : m < xs.length := by rw [hxH.out]; exact hlt
   obtain ⟨b, off, row, rfl, hbb, hrl, hrr, hrx⟩ := (htH.out wo hB.out).at m hltx
   have hlt' : (m : Int) < (n : Int) := by omega
   have hstep := fresh_step ownS clsKey xs m hltx
   rw [hz.out] at hstep
   have hsm := hsH.out _ (List.getElem_mem hltx)
   obtain ⟨x, hxm⟩ : ∃ x, x = xs[m] := ⟨_, rfl⟩
   rw [← hxm] at hrx hstep hsm
   have hbl : Hid (b < wo.heap.size) := by have := hhH.out; have := hB.out.size; show b < wo.heap.size; omega
   have mH : Hid (Calls Tryz.prog 71 #[.agg row.toArray] wo fun e w' => e = .returned (.bool (classS x)) ∧ Below wo.heap.size wo w') :=
    specClass_calls x wo row lo hi (by have := hhH.out; have := hB.out.size; omega) hrx hsm
   obtain ⟨g1, g2, g3, g4, rfl, f1, f2, f3, f4⟩ := hrx
   obtain ⟨p1, k1, rfl⟩ := f1.form
   obtain ⟨p2, k2, rfl⟩ := f2.form
   obtain ⟨p3, k3, rfl⟩ := f3.form
   obtain ⟨p4, k4, rfl⟩ := f4.form
   clear f1 f2 f3 f4 hsm
   generalize x.ifs.length = m1 at *
   generalize x.perms.length = m2 at *
   generalize x.fields.length = m3 at *
   generalize x.meths.length = m4 at *
   have cjH : Hid (∀ W, Below wo.heap.size wo W → (W.cell? ⟨b, off + m * 7, none⟩ = some (.string x.name) ∧ ∀ j (hj : j < m), W.cell? ⟨b, off + j * 7, none⟩ = some (.string (xs[j]'(by omega)).name))) := fun W hW => by
    refine ⟨(hW.cell (p := ⟨b, off + m * 7, none⟩) hbl.out).trans (hrr 0 _ rfl), fun j hj => ?_⟩
    obtain ⟨b2, off2, row2, h1, _, h3, h4, h5⟩ := (htH.out wo hB.out).at j (by omega)
    obtain ⟨rfl, rfl⟩ : b = b2 ∧ off = off2 := by simpa using h1
    obtain ⟨_, _, _, _, rfl, _⟩ := h5
    exact (hW.cell (p := ⟨b, off + j * 7, none⟩) hbl.out).trans (h4 0 _ rfl)
   have e0 : wo.cell? ⟨b, off + m * 7, none⟩ = some (.string x.name) := hrr 0 _ rfl
   have e1 : wo.cell? ⟨b, off + m * 7 + 1, none⟩ = some (.string x.super) := hrr 1 _ rfl
   have e2 : wo.cell? ⟨b, off + m * 7 + 2, none⟩ = some (.slice p1 m1 k1) := hrr 2 _ rfl
   have e3 : wo.cell? ⟨b, off + m * 7 + 3, none⟩ = some (.int .i64 x.flags) := hrr 3 _ rfl
   have e4 : wo.cell? ⟨b, off + m * 7 + 4, none⟩ = some (.slice p2 m2 k2) := hrr 4 _ rfl
   have e5 : wo.cell? ⟨b, off + m * 7 + 5, none⟩ = some (.slice p3 m3 k3) := hrr 5 _ rfl
   have e6 : wo.cell? ⟨b, off + m * 7 + 6, none⟩ = some (.slice p4 m4 k4) := hrr 6 _ rfl
   obtain ⟨A, hA⟩ : ∃ A, ((xs.take m).any fun y => decide (clsKey y = clsKey x)) = A := ⟨_, rfl⟩
   obtain ⟨FR, hFR⟩ : ∃ FR, fresh ownS clsKey (xs.take (m + 1)) (xs.drop (m + 1)) = FR := ⟨_, rfl⟩
   rw [hA, hFR] at hstep
   unfold ownS at hstep
   have hAH : Hid (((xs.take m).any fun y => decide (clsKey y = clsKey x)) = A) := hA
   have hFRH : Hid (fresh ownS clsKey (xs.take (m + 1)) (xs.drop (m + 1)) = FR) := hFR
   have bH : Hid (∀ W, Calls Tryz.prog 72 #[.string x.name] W fun e w' => e = .returned (.bool (isBootB x.name)) ∧ Below W.heap.size W w') := fun W => l5IsBoot_calls x.name W
   generalize classS x = sb at *
   generalize isBootB x.name = bb at *
   have hstepH : Hid (R = (!(!sb || bb) && (!A && FR))) := hstep
   clear hstep hA hFR hz hxm hrr hrl hbb
   go_wp2_with fail
   clear e0 e1 e2 e3 e4 e5 e6
   refine mH.out.mono ?_
   rintro e wA ⟨rfl, hbA⟩
   have y0 := (cjH.out wA hbA).1
   cases sb with
   | false =>
    go_wp2
    go_ret
    exact ⟨by rw [hstepH.out]; rfl, below_on2 hB.out hbA⟩
   | true =>
   go_wp2_with fail
   clear y0
   refine (bH.out wA).mono ?_
   rintro e wB ⟨rfl, hbB⟩
   have hoB : Hid (Below wo.heap.size wo wB) := below_on2 hbA hbB
   clear hbA hbB
   cases bb with
   | true =>
    go_wp2
    go_ret
    exact ⟨by rw [hstepH.out]; rfl, below_on2 hB.out hoB.out⟩
   | false =>
   have hRt : Hid (R = (!A && FR)) := hstepH.out
   clear hstepH
   go_wp2
   go_loopw [4] (fun i wr => ∃ j d : Nat, j ≤ m ∧ i = .int .i64 j ∧ Hid ((((xs.take m).drop j).any fun y => decide (clsKey y = clsKey x)) = A) ∧ Hid (wr = wB.drewN d)) (fun i _ => m - (intOf i).toNat)
   case atStart => exact ⟨0, 0, Nat.zero_le _, rfl, hAH.out, rfl⟩
   case round =>
    obtain ⟨j, d, hj, rfl, hz, hw⟩ := hrel
    have q0 : wr.cell? ⟨b, off + m * 7, none⟩ = some (.string x.name) := by rw [hw.out]; exact (cjH.out wB hoB.out).1
    by_cases hjm : j < m
    ·have hjn : (j : Int) < (n : Int) := by omega
     have hjm' : (j : Int) < (m : Int) := by omega
     have hcj : wr.cell? ⟨b, off + j * 7, none⟩ = some (.string (xs[j]'(by omega)).name) := by rw [hw.out]; exact (cjH.out wB hoB.out).2 j hjm
     have hst2 := any_step (fun y : ClassL => decide (clsKey y = clsKey x)) xs m j hjm (by omega)
     rw [hz.out] at hst2
     have hkk : decide (clsKey (xs[j]'(by omega)) = clsKey x) = ((xs[j]'(by omega)).name.toList == x.name.toList) := (str_eq _ _).symm
     rw [hkk] at hst2
     obtain ⟨s, hs⟩ : ∃ s, s = (xs[j]'(by omega)).name := ⟨_, rfl⟩
     rw [← hs] at hcj hst2
     have hst2H : Hid (A = ((s.toList == x.name.toList) || (((xs.take m).drop (j + 1)).any fun y => decide (clsKey y = clsKey x)))) := hst2
     clear hst2 hkk hs hz
     cases he : (s.toList == x.name.toList) with
     | true =>
      rw [he] at hst2H
      go_wp2
      go_quiet (fail)
      go_wp2
      go_ret
      exact ⟨by rw [hRt.out, hst2H.out]; rfl, by rw [hw.out]; exact below_drewN (below_drewN (below_on2 hB.out hoB.out) _) _⟩
     | false =>
      rw [he] at hst2H
      go_wp2
      go_quiet (fail)
      go_wp2
      go_roundw
      case rel => exact ⟨j + 1, _, by omega, by go_num, (show _ = A by rw [hst2H.out]; rfl), (by rw [hw.out]; exact drewN_all _ _ _)⟩
      case measure => simp [intOf]; omega
    ·have hA0 : A = false := by rw [← hz.out]; exact any_done _ xs m j hjm
     subst hA0
     go_wp2
     go_roundw
     case rel => exact ⟨m + 1, by omega, by go_num, (show _ = R by rw [hRt.out, hFRH.out]; rfl), (by rw [hw.out]; exact below_drewN (below_on2 hB.out hoB.out) _)⟩
     case measure => simp [intOf]; omega
  ·have hend := hz.out
   rw [List.drop_eq_nil_of_le (by rw [hxH.out]; omega)] at hend
   have hR : R = true := hend.symm
   subst hR
   clear hend
   go_wp2
   go_ret
   exact ⟨rfl, hB.out⟩
end Go.Proofs.YtjjccimeikkogaaGreatDoor
