import Derived.Test.YtjjccimeikkogaaGreatDoorRows
import Derived.WalkKit
import Derived.ProofKit
import Derived.Below
import Derived.Orders
namespace Go.Proofs.YtjjccimeikkogaaGreatDoor
set_option linter.unusedVariables false
open Go.ChangeShapes Go.WideShapes Go.ChangeAt Go.RowKit
def Kont (Q : Exit → Act → World → Prop) (K : Act → World → Prop) : Exit → Act → World → Prop
 | .normal, a, w => K a w
 | e, a, w => Q e a w
theorem Kont.lets {Q : Exit → Act → World → Prop} {K : Act → World → Prop} (h : LetsOut (Kont Q K)) : LetsOut Q := h
theorem oper_wp_kont {P : Program} {o : Oper} {a : Act} {w : World} {Q : Exit → Act → World → Prop} {K K' : Act → World → Prop} (h : o.wp P a w K (Kont Q K')) : o.wp P a w K Q := by
 unfold Oper.wp at *
 generalize (execOp a.eval o).run P w = r at *
 cases r with
 | ok n w' =>
  cases n <;> simp only [Oper.upon] at h ⊢ <;>
   first
    | exact h
    | exact Calls.mono h (fun e w'' he => by cases e <;> first | exact he | exact Kont.lets he)
 | halt x w' => cases x <;> simp only [Oper.upon] at h ⊢ <;> exact h
theorem wpOp_of_list {P : Program} {ops : Array Oper} {Q : Exit → Act → World → Prop} {K : Act → World → Prop} {i : Nat} {o : Oper} {a : Act} {w : World} (ho : ops[i]? = some o) (h : wpList P ops (Kont Q K) [o] a w) : wpOp P ops Q i K a w := by
 unfold wpOp
 simp only [ho]
 unfold wpList at h
 split
 ·rename_i hw
  simp only [hw, if_true] at h
  rcases h with h | ⟨h1, h2⟩
  ·exact .inl (Oper.wp_mono (fun a w h => h) (oper_wp_kont h))
  ·exact .inr ⟨h1, Kont.lets h2⟩
 ·rename_i hw
  simp only [hw] at h
  exact h
def unlisted (listed : Array Bool) : Nat := (listed.toList.filter (fun b => !b)).length
theorem unlisted_set {listed : Array Bool} {i : Nat} (h : listed.getD i true = false) : unlisted (listed.setIfInBounds i true) + 1 = unlisted listed := by
 have hi : i < listed.size := by
  rcases Nat.lt_or_ge i listed.size with h' | h'
  ·exact h'
  ·simp [Array.getElem?_eq_none h'] at h
 have hv : listed[i] = false := by simpa [hi] using h
 unfold unlisted
 rw [Array.toList_setIfInBounds]
 have hl : i < listed.toList.length := by simpa using hi
 have hv' : listed.toList[i] = false := by simpa using hv
 generalize listed.toList = l at *
 clear hv h
 induction l generalizing i with
 | nil => simp at hl
 | cons x l ih =>
  cases i with
  | zero =>
   have : x = false := hv'
   subst this
   simp
  | succ i =>
   have hl2 : i < l.length := by simpa using hl
   have := ih (i := i) (by exact Nat.lt_of_succ_lt hi) hl2 (by simpa using hv')
   cases x <;> simp [List.set] <;> omega
theorem unlisted_zero {md : Region.Mode} {ops : Array Oper} {listed : Array Bool} (hs : listed.size = ops.size) (h : unlisted listed = 0) : Region.ready md ops listed = [] := by
 refine List.eq_nil_iff_forall_not_mem.2 fun i hi => ?_
 obtain ⟨h0, _⟩ := mem_ready.1 hi
 have := unlisted_set h0
 omega
theorem wpAny_inv {P : Program} {ops : Array Oper} {Q : Exit → Act → World → Prop} (I : Array Bool → Act → World → Prop)
  (hstep : ∀ listed a w, listed.size = ops.size → I listed a w → ∀ i ∈ Region.ready .any ops listed, wpOp P ops Q i (I (listed.setIfInBounds i true)) a w)
  (hend : ∀ listed a w, listed.size = ops.size → I listed a w → Region.ready .any ops listed = [] → Q .normal a w) :
  ∀ fuel listed a w, listed.size = ops.size → unlisted listed ≤ fuel → I listed a w → wpAny P .any ops Q fuel listed a w
 | 0, listed, a, w, hs, hf, h => by
  have := unlisted_zero (md := .any) hs (Nat.le_zero.1 hf)
  exact ⟨this, hend _ _ _ hs h this⟩
 | fuel + 1, listed, a, w, hs, hf, h => by
  refine ⟨fun hr => hend _ _ _ hs h hr, fun i hi => ?_⟩
  have h0 := (mem_ready.1 hi).1
  have := unlisted_set h0
  exact wpOp_mono (fun a' w' h' => wpAny_inv I hstep hend fuel _ a' w' (by simpa using hs) (by omega) h') (hstep _ _ _ hs h i hi)
def upd (vs : Nat → Value) (i : Nat) (v : Value) : Nat → Value := fun j => if j = i then v else vs j
theorem upd_same (vs : Nat → Value) (i : Nat) (v : Value) : upd vs i v i = v := by simp [upd]
theorem upd_other (vs : Nat → Value) {i j : Nat} (v : Value) (h : j ≠ i) : upd vs i v j = vs j := by simp [upd, h]
theorem wpList_q {P : Program} {ops : Array Oper} {Q : Exit → Act → World → Prop} {K' : Act → World → Prop} {o : Oper} {a : Act} {w : World} (hk : ∀ a w, Q .normal a w → K' a w) (h : wpList P ops Q [o] a w) : wpList P ops (Kont Q K') [o] a w := by
 unfold wpList at h ⊢
 split at h
 ·rename_i hw
  simp only [hw, if_true]
  rcases h with h | ⟨h1, h2⟩
  ·refine .inl ?_
   unfold Oper.wp at *
   generalize (execOp a.eval o).run P w = r at *
   cases r with
   | ok n w' =>
    cases n <;> simp only [Oper.upon] at h ⊢ <;>
     first
      | exact hk _ _ h
      | exact Calls.mono h (fun e w'' he => by cases e <;> first | exact hk _ _ he | exact he)
      | exact Rows.mono h (fun _ _ he => hk _ _ he)
   | halt x w' => cases x <;> simp only [Oper.upon] at h ⊢ <;> exact h
  ·exact .inr ⟨h1, h2⟩
 ·rename_i hw
  simp only [hw]
  exact hk _ _ h
def regForward (l : List Oper) : Bool := (List.range l.length).all fun i => ((l[i]?).map fun o => o.after.all fun e => !Region.binds .any e || decide (e.on < i)).getD true
theorem regForward_done {l : List Oper} (hf : regForward l = true) (listed : Array Bool) (hs : listed.size = l.length) (hr : Region.ready .any l.toArray listed = []) : ∀ i, i < l.length → listed.getD i false = true := by
 intro i
 induction i using Nat.strongRecOn with
 | _ i ih =>
  intro hi
  cases hc : listed.getD i false with
  | true => rfl
  | false =>
   exfalso
   have hlt : i < listed.size := by omega
   have hd : listed.getD i true = false := by simp [hlt] at hc ⊢; exact hc
   have ho : l[i]? = some l[i] := by simp [hi]
   have hmem : i ∈ Region.ready .any l.toArray listed := by
    refine mem_ready.2 ⟨hd, l[i], by simp [hi], fun e he hbd => ?_⟩
    have hall := List.all_eq_true.1 hf i (by simpa using hi)
    rw [ho] at hall
    have h1 : e.on < i := by
     have hall2 : l[i].after.all (fun e => !Region.binds .any e || decide (e.on < i)) = true := by simpa using hall
     have := Array.all_eq_true_iff_forall_mem.1 hall2 e he
     simpa [hbd] using this
    exact ih e.on h1 (by omega)
   rw [hr] at hmem
   cases hmem
def AllOps (P : Nat → Oper → Prop) : Nat → List Oper → Prop
 | _, [] => True
 | k, o :: l => P k o ∧ AllOps P (k + 1) l
theorem allAt_from {P : Nat → Oper → Prop} : ∀ {l : List Oper} {k : Nat}, AllOps P k l → ∀ i o, l[i]? = some o → P (k + i) o
 | [], _, _, i, o, h => by simp at h
 | x :: l, k, ⟨h0, h1⟩, i, o, h => by
  cases i with
  | zero =>
   have : x = o := by simpa using h
   subst this
   exact h0
  | succ i =>
   have := allAt_from h1 i o (by simpa using h)
   rw [show k + (i + 1) = k + 1 + i by omega]
   exact this
theorem allOps_all {P : Nat → Oper → Prop} {l : List Oper} (h : AllOps P 0 l) : ∀ i o, l[i]? = some o → P i o := fun i o ho => by
 have := allAt_from h i o ho
 rwa [Nat.zero_add] at this
def waitsOn (l : List Oper) (j i : Nat) : Bool := ((l[j]?).map fun o => o.after.any fun e => Region.binds .any e && e.on == i).getD false
theorem waitsOn_spec {l : List Oper} {j i : Nat} {o : Oper} (ho : l[j]? = some o) (h : waitsOn l j i = true) : ∃ e ∈ o.after, Region.binds .any e = true ∧ e.on = i := by
 unfold waitsOn at h
 rw [ho] at h
 have h : o.after.any (fun e => Region.binds .any e && e.on == i) = true := by simpa using h
 obtain ⟨j, hj, h1⟩ := Array.any_eq_true.1 h
 have he : o.after[j] ∈ o.after := Array.getElem_mem hj
 generalize o.after[j] = e at h1 he
 simp only [Bool.and_eq_true, beq_iff_eq] at h1
 exact ⟨e, he, h1.1, h1.2⟩
def reachB (l : List Oper) : Nat → Nat → Nat → Bool
 | 0, _, _ => false
 | f + 1, j, i => waitsOn l j i || (List.range j).any fun k => waitsOn l j k && reachB l f k i
def DownC (l : List Oper) (listed : Array Bool) : Prop := ∀ i o, l[i]? = some o → listed.getD i false = true → ∀ e ∈ o.after, Region.binds .any e = true → listed.getD e.on false = true
theorem waitsOn_lt {l : List Oper} {j i : Nat} (h : waitsOn l j i = true) : ∃ o, l[j]? = some o := by
 unfold waitsOn at h
 cases ho : l[j]? with
 | none => rw [ho] at h; simp at h
 | some o => exact ⟨o, rfl⟩
theorem DownC.waits {l : List Oper} {listed : Array Bool} (hd : DownC l listed) {j i : Nat} (hj : listed.getD j false = true) (h : waitsOn l j i = true) : listed.getD i false = true := by
 obtain ⟨o, ho⟩ := waitsOn_lt h
 obtain ⟨e, he, hb, rfl⟩ := waitsOn_spec ho h
 exact hd j o ho hj e he hb
theorem DownC.reach {l : List Oper} {listed : Array Bool} (hd : DownC l listed) : ∀ (f : Nat) {j i : Nat}, listed.getD j false = true → reachB l f j i = true → listed.getD i false = true
 | 0, _, _, _, h => by simp [reachB] at h
 | f + 1, j, i, hj, h => by
  simp only [reachB, Bool.or_eq_true] at h
  rcases h with h | h
  ·exact hd.waits hj h
  ·obtain ⟨k, _, hk⟩ := List.any_eq_true.1 h
   simp only [Bool.and_eq_true] at hk
   exact hd.reach f (hd.waits hj hk.1) hk.2
theorem DownC.set {l : List Oper} : ∀ (listed : Array Bool) (i : Nat) (o : Oper), l[i]? = some o → i < listed.size → DownC l listed → (∀ e ∈ o.after, Region.binds .any e = true → listed.getD e.on false = true) → DownC l (listed.setIfInBounds i true) := by
 intro listed i o ho hi hd hall j oj hoj hlj e he hb
 by_cases q : j = i
 ·subst q
  rw [ho] at hoj
  injection hoj with hoj
  subst hoj
  have := hall e he hb
  by_cases q2 : e.on = j
  ·rw [q2]; simp [hi]
  ·rw [getD_set_ne false (Ne.symm q2)]; exact this
 ·rw [getD_set_ne false (Ne.symm q)] at hlj
  have := hd j oj hoj hlj e he hb
  by_cases q2 : e.on = i
  ·rw [q2]; simp [hi]
  ·rw [getD_set_ne false (Ne.symm q2)]; exact this
def chainOk (l : List Oper) (cs : List Nat) : Bool :=
 (List.range l.length).all (fun i => ((l[i]?).map fun o => o.after.all fun e => !Region.binds .any e || decide (e.on < i)).getD true) &&
 (List.range (cs.length - 1)).all (fun k => waitsOn l (cs.getD (k + 1) 0) (cs.getD k 0)) &&
 cs.all (fun c => decide (c + 1 < l.length)) && (List.range (l.length - 1)).all (fun i => reachB l l.length (l.length - 1) i) && decide (0 < l.length)
structure ChInv (F : (Nat → Value) → Act) (cs : List Nat) (Val : Nat → Value → Prop) (R : Nat → (Nat → Value) → World → Prop) (listed : Array Bool) (a : Act) (w : World) (k : Nat) (vs : Nat → Value) : Prop where
 le : k ≤ cs.length
 on : ∀ j c, cs[j]? = some c → j < k → listed.getD c false = true
 off : ∀ j c, cs[j]? = some c → k ≤ j → listed.getD c false = false
 frame : a = F vs
 inv : R k vs w
 val : ∀ i, listed.getD i false = true → i ∉ cs → Val i (vs i)
def PurePost (F : (Nat → Value) → Act) (Val : Nat → Value → Prop) (vs : Nat → Value) (w : World) (i : Nat) (a' : Act) (w' : World) : Prop := ∃ v, a' = F (upd vs i v) ∧ w' = w ∧ Val i v
theorem PurePost.mk' {Q : Exit → Act → World → Prop} {F : (Nat → Value) → Act} {Val : Nat → Value → Prop} {vs : Nat → Value} {w : World} {i : Nat} {a' : Act} (v : Value) (ha : a' = F (upd vs i v)) (hv : Val i v) : Kont Q (PurePost F Val vs w i) .normal a' w := show PurePost F Val vs w i a' w from ⟨v, ha, rfl, hv⟩
def ChainPost (F : (Nat → Value) → Act) (R : Nat → (Nat → Value) → World → Prop) (vs : Nat → Value) (k c : Nat) (a' : Act) (w' : World) : Prop := ∃ v, a' = F (upd vs c v) ∧ R (k + 1) (upd vs c v) w'
theorem ChainPost.mk' {Q : Exit → Act → World → Prop} {F : (Nat → Value) → Act} {R : Nat → (Nat → Value) → World → Prop} {vs : Nat → Value} {k c : Nat} {a' : Act} {w' : World} (v : Value) (ha : a' = F (upd vs c v)) (hv : R (k + 1) (upd vs c v) w') : Kont Q (ChainPost F R vs k c) .normal a' w' := show ChainPost F R vs k c a' w' from ⟨v, ha, hv⟩
theorem getD_set_self {listed : Array Bool} {i : Nat} (h : i < listed.size) : (listed.setIfInBounds i true).getD i false = true := by simp [h]
theorem getD_flip {listed : Array Bool} {i : Nat} (h : listed.getD i true = false) : listed.getD i false = false ∧ i < listed.size := by
 rcases Nat.lt_or_ge i listed.size with h' | h'
 ·simp [h'] at h ⊢; exact h
 ·simp [Array.getElem?_eq_none h'] at h
theorem wp_region_chain {P : Program} {id : Nat} {l : List Oper} {Q : Exit → Act → World → Prop} {a : Act} {w : World} (hm : P.follows .mixedOrders = true) (F : (Nat → Value) → Act) (cs : List Nat) (Val : Nat → Value → Prop) (R : Nat → (Nat → Value) → World → Prop) (vs0 : Nat → Value) (ha : a = F vs0) (hok : chainOk l cs = true)
  (hR0 : R 0 vs0 w.drew) (hloc : ∀ k vs i v w, i ∉ cs → R k vs w → R k (upd vs i v) w)
  (hpure : ∀ i o, l[i]? = some o → i ∉ cs → i + 1 < l.length → ∀ k vs w, R k vs w → (∀ e ∈ o.after, Region.binds .any e = true → e.on ∉ cs → Val e.on (vs e.on)) → wpList P l.toArray (Kont Q (PurePost F Val vs w i)) [o] (F vs) w)
  (hchain : ∀ k c o, cs[k]? = some c → l[c]? = some o → ∀ vs w, R k vs w → (∀ e ∈ o.after, Region.binds .any e = true → e.on ∉ cs → Val e.on (vs e.on)) → wpList P l.toArray (Kont Q (ChainPost F R vs k c)) [o] (F vs) w)
  (hlast : ∀ o, l[l.length - 1]? = some o → ∀ vs w, R cs.length vs w → (∀ i, i + 1 < l.length → i ∉ cs → Val i (vs i)) → wpList P l.toArray Q [o] (F vs) w) : (Code.region id l.toArray true).wp P Q a w := by
 unfold chainOk at hok
 simp only [Bool.and_eq_true, decide_eq_true_eq] at hok
 obtain ⟨⟨⟨⟨hfw, hch⟩, hcl⟩, hla⟩, hpos⟩ := hok
 have hchE : ∀ k, k + 1 < cs.length → waitsOn l (cs.getD (k + 1) 0) (cs.getD k 0) = true := fun k hk => by
  have := List.all_eq_true.1 hch k (by simp; omega)
  simpa using this
 have hclE : ∀ c ∈ cs, c + 1 < l.length := fun c hc => by simpa using List.all_eq_true.1 hcl c hc
 have hlaE : ∀ i, i + 1 < l.length → reachB l l.length (l.length - 1) i = true := fun i hi => List.all_eq_true.1 hla i (by simp; omega)
 have hlc : l.length - 1 ∉ cs := fun h => by have := hclE _ h; omega
 refine wp_region_any hm ?_
 refine wpAny_inv (fun listed a' w' => (listed.getD (l.length - 1) false = true ∧ (∀ i, i < l.length → listed.getD i false = true) ∧ Q .normal a' w') ∨ (listed.getD (l.length - 1) false = false ∧ DownC l listed ∧ ∃ k vs, ChInv F cs Val R listed a' w' k vs)) ?_ ?_ _ _ _ _ (by simp) ?_ ?_
 ·rintro listed a' w' hs hI i hi
  obtain ⟨h0, o, ho, hall⟩ := mem_ready.1 hi
  obtain ⟨h0f, hisz⟩ := getD_flip h0
  have hil : i < l.length := by simpa [hs] using hisz
  have ho' : l[i]? = some o := by simpa using ho
  rcases hI with ⟨_, hd, _⟩ | ⟨hnl, hdc, k, vs, h⟩
  ·rw [hd i hil] at h0f; cases h0f
  ·have hdep : ∀ e ∈ o.after, Region.binds .any e = true → e.on ∉ cs → Val e.on (vs e.on) := fun e he hb hc => h.val _ (hall e he hb) hc
   have hne : ∀ j, (listed.setIfInBounds i true).getD j false = true → j = i ∨ (j ≠ i ∧ listed.getD j false = true) := fun j hj => by
    by_cases e : j = i
    ·exact .inl e
    ·exact .inr ⟨e, by rw [getD_set_ne false (Ne.symm e)] at hj; exact hj⟩
   by_cases hlst : i = l.length - 1
   ·-- the last one
    have hAll : ∀ j, j + 1 < l.length → listed.getD j false = true := fun j hj => by
     have hr := hlaE j hj
     obtain ⟨f, hf⟩ : ∃ f, l.length = f + 1 := ⟨l.length - 1, by omega⟩
     rw [show reachB l l.length (l.length - 1) j = reachB l (f + 1) (l.length - 1) j by rw [← hf]] at hr
     simp only [reachB, Bool.or_eq_true] at hr
     rcases hr with hr | hr
     ·obtain ⟨e, he, hb, hej⟩ := waitsOn_spec (by rw [← hlst]; exact ho') hr
      have := hall e he hb
      rw [hej] at this; exact this
     ·obtain ⟨k, _, hk⟩ := List.any_eq_true.1 hr
      simp only [Bool.and_eq_true] at hk
      obtain ⟨e, he, hb, hej⟩ := waitsOn_spec (by rw [← hlst]; exact ho') hk.1
      have h1 := hall e he hb
      rw [hej] at h1
      exact hdc.reach f h1 hk.2
    have hk : k = cs.length := by
     rcases Nat.lt_or_ge k cs.length with h' | h'
     ·have h1 := h.off k cs[k] (by simp [h']) (Nat.le_refl _)
      rw [hAll _ (hclE _ (List.getElem_mem h'))] at h1
      cases h1
     ·have := h.le
      omega
    subst hk
    rw [h.frame]
    have hw := hlast o (by rw [← hlst]; exact ho') vs w' h.inv (fun j hj hc => h.val j (hAll j hj) hc)
    refine wpOp_of_list ho (wpList_q ?_ hw)
    intro a2 w2 hq
    refine .inl ⟨by rw [← hlst]; exact getD_set_self (by simpa using hisz), fun j hj => ?_, hq⟩
    by_cases e : j = i
    ·rw [e]; exact getD_set_self hisz
    ·rw [getD_set_ne false (Ne.symm e)]; exact hAll j (by omega)
   ·have hi1 : i + 1 < l.length := by omega
    have hnl' : (listed.setIfInBounds i true).getD (l.length - 1) false = false := by rw [getD_set_ne false hlst]; exact hnl
    rw [h.frame]
    by_cases hc : i ∈ cs
    ·-- the next of the chain
     obtain ⟨j, hj⟩ := List.mem_iff_getElem?.1 hc
     have hjl : j < cs.length := (List.getElem?_eq_some_iff.1 hj).1
     have hjk : k ≤ j := by
      rcases Nat.lt_or_ge j k with h' | h'
      ·rw [h.on j i hj h'] at h0f; cases h0f
      ·exact h'
     have hjk2 : j = k := by
      rcases Nat.lt_or_ge k j with h' | h'
      ·exfalso
       have hj1 : j - 1 < cs.length := by omega
       have hwt := hchE (j - 1) (by omega)
       rw [show j - 1 + 1 = j by omega] at hwt
       have e1 : cs.getD j 0 = i := by simp [List.getD, hj]
       have e2 : cs.getD (j - 1) 0 = cs[j - 1] := by simp [hj1]
       rw [e1, e2] at hwt
       obtain ⟨e, he, hb, hee⟩ := waitsOn_spec ho' hwt
       have h1 := hall e he hb
       rw [hee, h.off (j - 1) cs[j - 1] (by simp [hj1]) (by omega)] at h1
       cases h1
      ·omega
     subst hjk2
     refine wpOp_mono ?_ (wpOp_of_list ho (hchain j i o hj ho' vs w' h.inv hdep))
     rintro a2 w2 ⟨v, rfl, hR⟩
     refine .inr ⟨hnl', DownC.set listed i o ho' hisz hdc hall, j + 1, upd vs i v, ⟨by omega, fun j' c hc' hlt => ?_, fun j' c hc' hge => ?_, rfl, hR, fun q hq hqc => ?_⟩⟩
     ·by_cases e : c = i
      ·rw [e]; exact getD_set_self hisz
      ·rw [getD_set_ne false (Ne.symm e)]
       refine h.on j' c hc' ?_
       rcases Nat.lt_or_ge j' j with h' | h'
       ·exact h'
       ·exfalso
        have : j' = j := by omega
        subst this
        rw [hj] at hc'
        exact e (by simpa using hc'.symm)
     ·have hne' : c ≠ i := fun e => by
       subst e
       -- a chain has each once: the later one waits for the earlier
       have h1 := h.off j' c hc' (by omega)
       have hj1 : j' - 1 < cs.length := by have := (List.getElem?_eq_some_iff.1 hc').1; omega
       have hwt := hchE (j' - 1) (by have := (List.getElem?_eq_some_iff.1 hc').1; omega)
       rw [show j' - 1 + 1 = j' by omega] at hwt
       have e1 : cs.getD j' 0 = c := by simp [List.getD, hc']
       have e2 : cs.getD (j' - 1) 0 = cs[j' - 1] := by simp [hj1]
       rw [e1, e2] at hwt
       obtain ⟨e, he, hb, hee⟩ := waitsOn_spec ho' hwt
       have h2 := hall e he hb
       rw [hee, h.off (j' - 1) cs[j' - 1] (by simp [hj1]) (by omega)] at h2
       cases h2
      rw [getD_set_ne false (Ne.symm hne')]
      exact h.off j' c hc' (by omega)
     ·rcases hne q hq with e | ⟨e, hq'⟩
      ·exact absurd (e ▸ hc) hqc
      ·rw [upd_other _ _ e]; exact h.val q hq' hqc
    ·refine wpOp_mono ?_ (wpOp_of_list ho (hpure i o ho' hc hi1 k vs w' h.inv hdep))
     rintro a2 w2 ⟨v, rfl, rfl, hV⟩
     refine .inr ⟨hnl', DownC.set listed i o ho' hisz hdc hall, k, upd vs i v, ⟨h.le, fun j' c hc' hlt => getD_set_true (h.on j' c hc' hlt), fun j' c hc' hge => ?_, rfl, hloc k vs i v _ hc h.inv, fun q hq hqc => ?_⟩⟩
     ·have hne' : c ≠ i := fun e => hc (e ▸ List.mem_of_getElem? hc')
      rw [getD_set_ne false (Ne.symm hne')]
      exact h.off j' c hc' hge
     ·rcases hne q hq with e | ⟨e, hq'⟩
      ·rw [e, upd_same]; exact hV
      ·rw [upd_other _ _ e]; exact h.val q hq' hqc
 ·rintro listed a' w' hs hI hr
  rcases hI with ⟨_, _, hq⟩ | ⟨hnl, _⟩
  ·exact hq
  ·have hd := regForward_done (l := l) hfw listed (by simpa using hs) hr (l.length - 1) (by omega)
   rw [hd] at hnl; cases hnl
 ·simp [unlisted]
 ·refine .inr ⟨by rcases Nat.lt_or_ge (l.length - 1) l.length with h' | h' <;> simp [h'], fun i o _ hl => absurd hl (by rcases Nat.lt_or_ge i l.length with h' | h' <;> simp [h']), 0, vs0, ⟨Nat.zero_le _, fun j c _ h => absurd h (by omega), fun j c _ _ => ?_, ha, hR0, fun i hi => ?_⟩⟩
  ·rcases Nat.lt_or_ge c l.length with h' | h' <;> simp [h']
  ·rcases Nat.lt_or_ge i l.length with h' | h' <;> simp [h'] at hi
end Go.Proofs.YtjjccimeikkogaaGreatDoor
