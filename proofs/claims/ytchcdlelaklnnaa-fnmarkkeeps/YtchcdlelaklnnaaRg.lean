/- Regions whose order is open and whose operations make memory. -/
import Derived.Test.YtchcdlelaklnnaaRows
import Derived.WalkKit
import Derived.ProofKit
import Derived.Below
import Derived.Orders
namespace Go.Proofs.Ytchcdlelaklnnaa
set_option linter.unusedVariables false
open Go.ChangeShapes Go.WideShapes Go.ChangeAt Go.RowKit

/-- Q, with K in the place of what follows. -/
def Kont (Q : Exit → Act → World → Prop) (K : Act → World → Prop) : Exit → Act → World → Prop
  | .normal, a, w => K a w
  | e, a, w => Q e a w
theorem Kont.lets {Q : Exit → Act → World → Prop} {K : Act → World → Prop} (h : LetsOut (Kont Q K)) : LetsOut Q := h
theorem oper_wp_kont {P : Program} {o : Oper} {a : Act} {w : World} {Q : Exit → Act → World → Prop} {K K' : Act → World → Prop} (h : o.wp P a w K (Kont Q K')) : o.wp P a w K Q := by
  unfold Oper.wp at *
  generalize (execOp a.eval o).run P w = r at *
  cases r with
  | ok n w' =>
    cases n <;> simp only [Oper.upon] at h ⊢ <;>
      first
        | exact h
        | exact Calls.mono h (fun e w'' he => by cases e <;> first | exact he | exact Kont.lets he)
  | halt x w' => cases x <;> simp only [Oper.upon] at h ⊢ <;> exact h
theorem wpOp_of_list {P : Program} {ops : Array Oper} {Q : Exit → Act → World → Prop} {K : Act → World → Prop} {i : Nat} {o : Oper} {a : Act} {w : World} (ho : ops[i]? = some o) (h : wpList P ops (Kont Q K) [o] a w) : wpOp P ops Q i K a w := by
  unfold wpOp
  simp only [ho]
  unfold wpList at h
  split
  · rename_i hw
    simp only [hw, if_true] at h
    rcases h with h | ⟨h1, h2⟩
    · exact .inl (Oper.wp_mono (fun a w h => h) (oper_wp_kont h))
    · exact .inr ⟨h1, Kont.lets h2⟩
  · rename_i hw
    simp only [hw] at h
    exact h
def unlisted (listed : Array Bool) : Nat := (listed.toList.filter (fun b => !b)).length
theorem unlisted_set {listed : Array Bool} {i : Nat} (h : listed.getD i true = false) : unlisted (listed.setIfInBounds i true) + 1 = unlisted listed := by
  have hi : i < listed.size := by
    rcases Nat.lt_or_ge i listed.size with h' | h'
    · exact h'
    · simp [Array.getElem?_eq_none h'] at h
  have hv : listed[i] = false := by simpa [hi] using h
  unfold unlisted
  rw [Array.toList_setIfInBounds]
  have hl : i < listed.toList.length := by simpa using hi
  have hv' : listed.toList[i] = false := by simpa using hv
  generalize listed.toList = l at *
  clear hv h
  induction l generalizing i with
  | nil => simp at hl
  | cons x l ih =>
    cases i with
    | zero =>
      have : x = false := hv'
      subst this
      simp
    | succ i =>
      have hl2 : i < l.length := by simpa using hl
      have := ih (i := i) (by exact Nat.lt_of_succ_lt hi) hl2 (by simpa using hv')
      cases x <;> simp [List.set] <;> omega
theorem unlisted_zero {md : Region.Mode} {ops : Array Oper} {listed : Array Bool} (hs : listed.size = ops.size) (h : unlisted listed = 0) : Region.ready md ops listed = [] := by
  refine List.eq_nil_iff_forall_not_mem.2 fun i hi => ?_
  obtain ⟨h0, _⟩ := mem_ready.1 hi
  have := unlisted_set h0
  omega
/-- Whatever order: an invariant over what has come up. -/
theorem wpAny_inv {P : Program} {ops : Array Oper} {Q : Exit → Act → World → Prop} (I : Array Bool → Act → World → Prop)
    (hstep : ∀ listed a w, listed.size = ops.size → I listed a w → ∀ i ∈ Region.ready .any ops listed, wpOp P ops Q i (I (listed.setIfInBounds i true)) a w)
    (hend : ∀ listed a w, listed.size = ops.size → I listed a w → Region.ready .any ops listed = [] → Q .normal a w) :
    ∀ fuel listed a w, listed.size = ops.size → unlisted listed ≤ fuel → I listed a w → wpAny P .any ops Q fuel listed a w
  | 0, listed, a, w, hs, hf, h => by
    have := unlisted_zero (md := .any) hs (Nat.le_zero.1 hf)
    exact ⟨this, hend _ _ _ hs h this⟩
  | fuel + 1, listed, a, w, hs, hf, h => by
    refine ⟨fun hr => hend _ _ _ hs h hr, fun i hi => ?_⟩
    have h0 := (mem_ready.1 hi).1
    have := unlisted_set h0
    exact wpOp_mono (fun a' w' h' => wpAny_inv I hstep hend fuel _ a' w' (by simpa using hs) (by omega) h') (hstep _ _ _ hs h i hi)

/-- What a step of a region leaves: its value in its slot, memory of its own behind what was there. -/
def upd (vs : Nat → Value) (i : Nat) (v : Value) : Nat → Value := fun j => if j = i then v else vs j
def updN (ns : Nat → Nat) (i : Nat) (n : Nat) : Nat → Nat := fun j => if j = i then n else ns j
theorem upd_same (vs : Nat → Value) (i : Nat) (v : Value) : upd vs i v i = v := by simp [upd]
theorem upd_other (vs : Nat → Value) {i j : Nat} (v : Value) (h : j ≠ i) : upd vs i v j = vs j := by simp [upd, h]
theorem updN_same (ns : Nat → Nat) (i : Nat) (n : Nat) : updN ns i n i = n := by simp [updN]
theorem updN_other (ns : Nat → Nat) {i j : Nat} (n : Nat) (h : j ≠ i) : updN ns i n j = ns j := by simp [updN, h]
/-- The state of a region whose operations make memory: each that has come up has its value, in an interval of blocks of its own; the operation i may take over the interval of src i. -/
structure RegInv (F : (Nat → Value) → Act) (Val : Nat → Value → Nat → Nat → World → Prop) (src : Nat → Option Nat) (w0 : World) (listed : Array Bool) (a : Act) (w : World) (vs : Nat → Value) (lo hi : Nat → Nat) : Prop where
  frame : a = F vs
  below : Below w0.heap.size w0 w
  val : ∀ i, listed.getD i false = true → Val i (vs i) (lo i) (hi i) w
  ge : ∀ i, listed.getD i false = true → w0.heap.size ≤ lo i
  lt : ∀ i, listed.getD i false = true → hi i ≤ w.heap.size
  le : ∀ i, listed.getD i false = true → lo i ≤ hi i
  apart : ∀ i j, listed.getD i false = true → listed.getD j false = true → i ≠ j → src i ≠ some j → src j ≠ some i → hi i ≤ lo j ∨ hi j ≤ lo i
/-- What an operation leaves: its value, and where its memory lies. -/
def RegPost (F : (Nat → Value) → Act) (Val : Nat → Value → Nat → Nat → World → Prop) (src : Nat → Option Nat) (vs : Nat → Value) (lo hi : Nat → Nat) (w : World) (i : Nat) (o : Oper) (a' : Act) (w' : World) : Prop :=
  ∃ v lo' hi', a' = F (upd vs i v) ∧ Below w.heap.size w w' ∧ Val i v lo' hi' w' ∧ ((lo' = w.heap.size ∧ hi' = w'.heap.size) ∨ (∃ j, src i = some j ∧ (∃ e ∈ o.after, Region.binds .any e = true ∧ e.on = j) ∧ lo' = lo j ∧ hi' = hi j))
theorem RegPost.own {Q : Exit → Act → World → Prop} {F : (Nat → Value) → Act} {Val : Nat → Value → Nat → Nat → World → Prop} {src : Nat → Option Nat} {vs : Nat → Value} {lo hi : Nat → Nat} {w : World} {i : Nat} {o : Oper} {a' : Act} {w' : World} (v : Value) (ha : a' = F (upd vs i v)) (hb : Below w.heap.size w w') (hv : Val i v w.heap.size w'.heap.size w') : Kont Q (RegPost F Val src vs lo hi w i o) .normal a' w' := show RegPost F Val src vs lo hi w i o a' w' from ⟨v, _, _, ha, hb, hv, .inl ⟨rfl, rfl⟩⟩
theorem RegPost.take {Q : Exit → Act → World → Prop} {F : (Nat → Value) → Act} {Val : Nat → Value → Nat → Nat → World → Prop} {src : Nat → Option Nat} {vs : Nat → Value} {lo hi : Nat → Nat} {w : World} {i : Nat} {o : Oper} {a' : Act} {w' : World} (v : Value) (e : Edge) (hs : src i = some e.on) (he : e ∈ o.after) (hbi : Region.binds .any e = true) (ha : a' = F (upd vs i v)) (hb : Below w.heap.size w w') (hv : Val i v (lo e.on) (hi e.on) w') : Kont Q (RegPost F Val src vs lo hi w i o) .normal a' w' := show RegPost F Val src vs lo hi w i o a' w' from ⟨v, _, _, ha, hb, hv, .inr ⟨e.on, hs, ⟨e, he, hbi, rfl⟩, rfl, rfl⟩⟩
/-- What an operation of it has to show. -/
def RegStep2 (P : Program) (l : List Oper) (Q : Exit → Act → World → Prop) (F : (Nat → Value) → Act) (Val : Nat → Value → Nat → Nat → World → Prop) (src : Nat → Option Nat) (w0 : World) (i : Nat) (o : Oper) : Prop :=
  ∀ (vs : Nat → Value) (lo hi : Nat → Nat) (w : World), Below w0.heap.size w0 w → (∀ e ∈ o.after, Region.binds .any e = true → Val e.on (vs e.on) (lo e.on) (hi e.on) w ∧ w0.heap.size ≤ lo e.on ∧ hi e.on ≤ w.heap.size ∧ (∀ e' ∈ o.after, Region.binds .any e' = true → e.on ≠ e'.on → src e.on ≠ some e'.on → src e'.on ≠ some e.on → hi e.on ≤ lo e'.on ∨ hi e'.on ≤ lo e.on)) →
    wpList P l.toArray (Kont Q (RegPost F Val src vs lo hi w i o)) [o] (F vs) w
theorem wp_region_own2 {P : Program} {id : Nat} {l : List Oper} {Q : Exit → Act → World → Prop} {a : Act} {w : World} (hm : P.follows .mixedOrders = true) (F : (Nat → Value) → Act) (Val : Nat → Value → Nat → Nat → World → Prop) (src : Nat → Option Nat) (hs1 : ∀ i i' j, src i = some j → src i' = some j → i = i') (hs2 : ∀ i j, src i = some j → src j = none) (vs0 : Nat → Value) (ha : a = F vs0)
    (hst : ∀ i v lo hi w w', Below w.heap.size w w' → hi ≤ w.heap.size → Val i v lo hi w → Val i v lo hi w')
    (hop : ∀ i o, l[i]? = some o → RegStep2 P l Q F Val src w i o)
    (hend : ∀ (vs : Nat → Value) (lo hi : Nat → Nat) (w' : World), Below w.heap.size w w' → (∀ i, i < l.length → Val i (vs i) (lo i) (hi i) w') → (∀ i, i < l.length → w.heap.size ≤ lo i ∧ hi i ≤ w'.heap.size ∧ lo i ≤ hi i) → (∀ i j, i < l.length → j < l.length → i ≠ j → src i ≠ some j → src j ≠ some i → hi i ≤ lo j ∨ hi j ≤ lo i) → Q .normal (F vs) w') :
    (hacyc : ∀ listed : Array Bool, listed.size = l.length → Region.ready .any l.toArray listed = [] → ∀ i, i < l.length → listed.getD i false = true) → (Code.region id l.toArray true).wp P Q a w := by
  intro hacyc
  refine wp_region_any hm ?_
  refine wpAny_inv (fun listed a w' => ∃ vs lo hi, RegInv F Val src w listed a w' vs lo hi) ?_ ?_ _ _ _ _ (by simp) ?_ ?_
  · rintro listed a w1 hs ⟨vs, lo, hi, h⟩ i hi'
    obtain ⟨h0, o, ho, hall⟩ := mem_ready.1 hi'
    have hw : w.heap.size ≤ w1.heap.size := h.below.size
    have hl : ∀ j, listed.getD j false = true → j ≠ i := fun j hj e => by
      subst e
      rcases Nat.lt_or_ge j listed.size with h' | h'
      · simp [h'] at h0 hj; rw [h0] at hj; cases hj
      · simp [Array.getElem?_eq_none h'] at hj
    have hset : ∀ j, (listed.setIfInBounds i true).getD j false = true → j = i ∨ (j ≠ i ∧ listed.getD j false = true) := fun j hj => by
      by_cases e : j = i
      · exact .inl e
      · exact .inr ⟨e, by rw [getD_set_ne false (Ne.symm e)] at hj; exact hj⟩
    rw [h.frame]
    refine wpOp_mono ?_ (wpOp_of_list ho (hop i o (by simpa using ho) vs lo hi w1 h.below fun e he hb => ⟨h.val _ (hall e he hb), h.ge _ (hall e he hb), h.lt _ (hall e he hb), fun e' he' hb' hne n1 n2 => h.apart _ _ (hall e he hb) (hall e' he' hb') hne n1 n2⟩))
    rintro a' w2 ⟨v, lo', hi2, rfl, hb, hv, hint⟩
    have hw2 := hb.size
    -- where the interval lies
    have f1 : w.heap.size ≤ lo' ∧ hi2 ≤ w2.heap.size ∧ lo' ≤ hi2 := by
      rcases hint with ⟨e1, e2⟩ | ⟨j, _, ⟨e, he, hb', rfl⟩, e1, e2⟩
      · subst e1; subst e2; exact ⟨hw, Nat.le_refl _, hw2⟩
      · have hj := hall e he hb'
        rw [e1, e2]
        exact ⟨h.ge _ hj, Nat.le_trans (h.lt _ hj) hw2, h.le _ hj⟩
    have f2 : ∀ k, listed.getD k false = true → src i ≠ some k → src k ≠ some i → hi2 ≤ lo k ∨ hi k ≤ lo' := fun k hk n1 n2 => by
      rcases hint with ⟨e1, e2⟩ | ⟨j, hj', ⟨e, he, hb', hj⟩, e1, e2⟩
      · subst e1; exact .inr (h.lt k hk)
      · subst hj
        have hjl := hall e he hb'
        rw [e1, e2]
        have hne : e.on ≠ k := fun q => n1 (by rw [hj', q])
        refine h.apart _ _ hjl hk hne (by rw [hs2 _ _ hj']; simp) fun q => ?_
        exact hl k hk (hs1 _ _ _ q hj')
    refine ⟨upd vs i v, updN lo i lo', updN hi i hi2, rfl, h.below.trans (hb.mono hw), ?_, ?_, ?_, ?_, ?_⟩
    · intro j hj
      rcases hset j hj with rfl | ⟨e, hj⟩
      · rw [upd_same, updN_same, updN_same]; exact hv
      · rw [upd_other _ _ e, updN_other _ _ e, updN_other _ _ e]; exact hst _ _ _ _ _ _ hb (h.lt j hj) (h.val j hj)
    · intro j hj
      rcases hset j hj with rfl | ⟨e, hj⟩
      · rw [updN_same]; exact f1.1
      · rw [updN_other _ _ e]; exact h.ge j hj
    · intro j hj
      rcases hset j hj with rfl | ⟨e, hj⟩
      · rw [updN_same]; exact f1.2.1
      · rw [updN_other _ _ e]; exact Nat.le_trans (h.lt j hj) hw2
    · intro j hj
      rcases hset j hj with rfl | ⟨e, hj⟩
      · rw [updN_same, updN_same]; exact f1.2.2
      · rw [updN_other _ _ e, updN_other _ _ e]; exact h.le j hj
    · intro j k hj hk hne n1 n2
      rcases hset j hj with ej | ⟨ej, hj'⟩
      · rcases hset k hk with ek | ⟨ek, hk'⟩
        · exact absurd (ej.trans ek.symm) hne
        · subst ej
          rw [updN_same, updN_same, updN_other _ _ ek, updN_other _ _ ek]
          exact f2 k hk' n1 n2
      · rcases hset k hk with ek | ⟨ek, hk'⟩
        · subst ek
          rw [updN_same, updN_same, updN_other _ _ ej, updN_other _ _ ej]
          exact (f2 j hj' n2 n1).symm
        · rw [updN_other _ _ ej, updN_other _ _ ej, updN_other _ _ ek, updN_other _ _ ek]
          exact h.apart j k hj' hk' hne n1 n2
  · rintro listed a w1 hs ⟨vs, lo, hi, h⟩ hr
    have hd := hacyc listed (by simpa using hs) hr
    rw [h.frame]
    exact hend vs lo hi w1 h.below (fun i hi => h.val i (hd i hi)) (fun i hi => ⟨h.ge i (hd i hi), h.lt i (hd i hi), h.le i (hd i hi)⟩) (fun i j hi hj hne n1 n2 => h.apart i j (hd i hi) (hd j hj) hne n1 n2)
  · simp [unlisted]
  · have hf : ∀ i, (Array.replicate l.length false).getD i false = true → False := fun i h => by
      rcases Nat.lt_or_ge i l.length with h' | h'
      · simp [h'] at h
      · simp [h'] at h
    refine ⟨vs0, fun _ => 0, fun _ => 0, ha, Below.drew (Below.refl _ _), fun i hi => (hf i (by simpa using hi)).elim, fun i hi => (hf i (by simpa using hi)).elim, fun i hi => (hf i (by simpa using hi)).elim, fun i hi => (hf i (by simpa using hi)).elim, fun i j hi => (hf i (by simpa using hi)).elim⟩
/-- The same where each operation has memory of its own alone. -/
def RegStep (P : Program) (l : List Oper) (Q : Exit → Act → World → Prop) (F : (Nat → Value) → Act) (Val : Nat → Value → Nat → Nat → World → Prop) (w0 : World) (i : Nat) (o : Oper) : Prop :=
  ∀ (vs : Nat → Value) (lo hi : Nat → Nat) (w : World), Below w0.heap.size w0 w → (∀ e ∈ o.after, Region.binds .any e = true → Val e.on (vs e.on) (lo e.on) (hi e.on) w ∧ w0.heap.size ≤ lo e.on ∧ hi e.on ≤ w.heap.size ∧ (∀ e' ∈ o.after, Region.binds .any e' = true → e.on ≠ e'.on → hi e.on ≤ lo e'.on ∨ hi e'.on ≤ lo e.on)) →
    wpList P l.toArray (Kont Q fun a' w' => ∃ v, a' = F (upd vs i v) ∧ Below w.heap.size w w' ∧ Val i v w.heap.size w'.heap.size w') [o] (F vs) w
theorem wpList_kont {P : Program} {ops : Array Oper} {Q : Exit → Act → World → Prop} {K K' : Act → World → Prop} {o : Oper} {a : Act} {w : World} (hk : ∀ a w, K a w → K' a w) (h : wpList P ops (Kont Q K) [o] a w) : wpList P ops (Kont Q K') [o] a w := by
  unfold wpList at h ⊢
  split at h
  · rename_i hw
    simp only [hw, if_true]
    rcases h with h | ⟨h1, h2⟩
    · refine .inl ?_
      unfold Oper.wp at *
      generalize (execOp a.eval o).run P w = r at *
      cases r with
      | ok n w' =>
        cases n <;> simp only [Oper.upon] at h ⊢ <;>
          first
            | exact hk _ _ h
            | exact Calls.mono h (fun e w'' he => by cases e <;> first | exact hk _ _ he | exact he)
            | exact Rows.mono h (fun _ _ he => hk _ _ he)
      | halt x w' => cases x <;> simp only [Oper.upon] at h ⊢ <;> exact h
    · exact .inr ⟨h1, h2⟩
  · rename_i hw
    simp only [hw]
    exact hk _ _ h
theorem wpList_q {P : Program} {ops : Array Oper} {Q : Exit → Act → World → Prop} {K' : Act → World → Prop} {o : Oper} {a : Act} {w : World} (hk : ∀ a w, Q .normal a w → K' a w) (h : wpList P ops Q [o] a w) : wpList P ops (Kont Q K') [o] a w := by
  unfold wpList at h ⊢
  split at h
  · rename_i hw
    simp only [hw, if_true]
    rcases h with h | ⟨h1, h2⟩
    · refine .inl ?_
      unfold Oper.wp at *
      generalize (execOp a.eval o).run P w = r at *
      cases r with
      | ok n w' =>
        cases n <;> simp only [Oper.upon] at h ⊢ <;>
          first
            | exact hk _ _ h
            | exact Calls.mono h (fun e w'' he => by cases e <;> first | exact hk _ _ he | exact he)
            | exact Rows.mono h (fun _ _ he => hk _ _ he)
      | halt x w' => cases x <;> simp only [Oper.upon] at h ⊢ <;> exact h
    · exact .inr ⟨h1, h2⟩
  · rename_i hw
    simp only [hw]
    exact hk _ _ h
theorem wp_region_own {P : Program} {id : Nat} {l : List Oper} {Q : Exit → Act → World → Prop} {a : Act} {w : World} (hm : P.follows .mixedOrders = true) (F : (Nat → Value) → Act) (Val : Nat → Value → Nat → Nat → World → Prop) (vs0 : Nat → Value) (ha : a = F vs0)
    (hst : ∀ i v lo hi w w', Below w.heap.size w w' → hi ≤ w.heap.size → Val i v lo hi w → Val i v lo hi w')
    (hop : ∀ i o, l[i]? = some o → RegStep P l Q F Val w i o)
    (hend : ∀ (vs : Nat → Value) (lo hi : Nat → Nat) (w' : World), Below w.heap.size w w' → (∀ i, i < l.length → Val i (vs i) (lo i) (hi i) w') → (∀ i, i < l.length → w.heap.size ≤ lo i ∧ hi i ≤ w'.heap.size ∧ lo i ≤ hi i) → (∀ i j, i < l.length → j < l.length → i ≠ j → hi i ≤ lo j ∨ hi j ≤ lo i) → Q .normal (F vs) w')
    (hacyc : ∀ listed : Array Bool, listed.size = l.length → Region.ready .any l.toArray listed = [] → ∀ i, i < l.length → listed.getD i false = true) : (Code.region id l.toArray true).wp P Q a w := by
  refine wp_region_own2 hm F Val (fun _ => none) (by simp) (by simp) vs0 ha hst (fun i o ho vs lo hi w1 hb hv => ?_) (fun vs lo hi w1 hb h1 h2 h3 => hend vs lo hi w1 hb h1 h2 fun i j hi hj hne => h3 i j hi hj hne (by simp) (by simp)) hacyc
  refine wpList_kont ?_ (hop i o ho vs lo hi w1 hb fun e he hb' => ?_)
  · rintro a' w2 ⟨v, e1, e2, e3⟩
    exact ⟨v, _, _, e1, e2, e3, .inl ⟨rfl, rfl⟩⟩
  · obtain ⟨g1, g2, g3, g4⟩ := hv e he hb'
    exact ⟨g1, g2, g3, fun e' he' hb'' hne => g4 e' he' hb'' hne (by simp) (by simp)⟩
/-- A region in which each operation waits only for earlier ones has an operation that may come up as long as not all have. -/
def regForward (l : List Oper) : Bool := (List.range l.length).all fun i => ((l[i]?).map fun o => o.after.all fun e => !Region.binds .any e || decide (e.on < i)).getD true
theorem regForward_done {l : List Oper} (hf : regForward l = true) (listed : Array Bool) (hs : listed.size = l.length) (hr : Region.ready .any l.toArray listed = []) : ∀ i, i < l.length → listed.getD i false = true := by
  intro i
  induction i using Nat.strongRecOn with
  | _ i ih =>
    intro hi
    cases hc : listed.getD i false with
    | true => rfl
    | false =>
      exfalso
      have hlt : i < listed.size := by omega
      have hd : listed.getD i true = false := by simp [hlt] at hc ⊢; exact hc
      have ho : l[i]? = some l[i] := by simp [hi]
      have hmem : i ∈ Region.ready .any l.toArray listed := by
        refine mem_ready.2 ⟨hd, l[i], by simp [hi], fun e he hbd => ?_⟩
        have hall := List.all_eq_true.1 hf i (by simpa using hi)
        rw [ho] at hall
        have h1 : e.on < i := by
          have hall2 : l[i].after.all (fun e => !Region.binds .any e || decide (e.on < i)) = true := by simpa using hall
          have := Array.all_eq_true_iff_forall_mem.1 hall2 e he
          simpa [hbd] using this
        exact ih e.on h1 (by omega)
      rw [hr] at hmem
      cases hmem
def AllAt (P : Nat → Oper → Prop) : Nat → List Oper → Prop
  | _, [] => True
  | k, o :: l => P k o ∧ AllAt P (k + 1) l
theorem allAt_from {P : Nat → Oper → Prop} : ∀ {l : List Oper} {k : Nat}, AllAt P k l → ∀ i o, l[i]? = some o → P (k + i) o
  | [], _, _, i, o, h => by simp at h
  | x :: l, k, ⟨h0, h1⟩, i, o, h => by
    cases i with
    | zero =>
      have : x = o := by simpa using h
      subst this
      exact h0
    | succ i =>
      have := allAt_from h1 i o (by simpa using h)
      rw [show k + (i + 1) = k + 1 + i by omega]
      exact this
theorem allAt_all {P : Nat → Oper → Prop} {l : List Oper} (h : AllAt P 0 l) : ∀ i o, l[i]? = some o → P i o := fun i o ho => by
  have := allAt_from h i o ho
  rwa [Nat.zero_add] at this
/-- Does the operation j wait for the operation i? -/
def waitsOn (l : List Oper) (j i : Nat) : Bool := ((l[j]?).map fun o => o.after.any fun e => Region.binds .any e && e.on == i).getD false
theorem waitsOn_spec {l : List Oper} {j i : Nat} {o : Oper} (ho : l[j]? = some o) (h : waitsOn l j i = true) : ∃ e ∈ o.after, Region.binds .any e = true ∧ e.on = i := by
  unfold waitsOn at h
  rw [ho] at h
  have h : o.after.any (fun e => Region.binds .any e && e.on == i) = true := by simpa using h
  obtain ⟨j, hj, h1⟩ := Array.any_eq_true.1 h
  have he : o.after[j] ∈ o.after := Array.getElem_mem hj
  generalize o.after[j] = e at h1 he
  simp only [Bool.and_eq_true, beq_iff_eq] at h1
  exact ⟨e, he, h1.1, h1.2⟩
/-- Does j wait for i, over others? -/
def reachB (l : List Oper) : Nat → Nat → Nat → Bool
  | 0, _, _ => false
  | f + 1, j, i => waitsOn l j i || (List.range j).any fun k => waitsOn l j k && reachB l f k i
def DownC (l : List Oper) (listed : Array Bool) : Prop := ∀ i o, l[i]? = some o → listed.getD i false = true → ∀ e ∈ o.after, Region.binds .any e = true → listed.getD e.on false = true
theorem waitsOn_lt {l : List Oper} {j i : Nat} (h : waitsOn l j i = true) : ∃ o, l[j]? = some o := by
  unfold waitsOn at h
  cases ho : l[j]? with
  | none => rw [ho] at h; simp at h
  | some o => exact ⟨o, rfl⟩
theorem DownC.waits {l : List Oper} {listed : Array Bool} (hd : DownC l listed) {j i : Nat} (hj : listed.getD j false = true) (h : waitsOn l j i = true) : listed.getD i false = true := by
  obtain ⟨o, ho⟩ := waitsOn_lt h
  obtain ⟨e, he, hb, rfl⟩ := waitsOn_spec ho h
  exact hd j o ho hj e he hb
theorem DownC.reach {l : List Oper} {listed : Array Bool} (hd : DownC l listed) : ∀ (f : Nat) {j i : Nat}, listed.getD j false = true → reachB l f j i = true → listed.getD i false = true
  | 0, _, _, _, h => by simp [reachB] at h
  | f + 1, j, i, hj, h => by
    simp only [reachB, Bool.or_eq_true] at h
    rcases h with h | h
    · exact hd.waits hj h
    · obtain ⟨k, _, hk⟩ := List.any_eq_true.1 h
      simp only [Bool.and_eq_true] at hk
      exact hd.reach f (hd.waits hj hk.1) hk.2
theorem DownC.set {l : List Oper} : ∀ (listed : Array Bool) (i : Nat) (o : Oper), l[i]? = some o → i < listed.size → DownC l listed → (∀ e ∈ o.after, Region.binds .any e = true → listed.getD e.on false = true) → DownC l (listed.setIfInBounds i true) := by
  intro listed i o ho hi hd hall j oj hoj hlj e he hb
  by_cases q : j = i
  · subst q
    rw [ho] at hoj
    injection hoj with hoj
    subst hoj
    have := hall e he hb
    by_cases q2 : e.on = j
    · rw [q2]; simp [hi]
    · rw [getD_set_ne false (Ne.symm q2)]; exact this
  · rw [getD_set_ne false (Ne.symm q)] at hlj
    have := hd j oj hoj hlj e he hb
    by_cases q2 : e.on = i
    · rw [q2]; simp [hi]
    · rw [getD_set_ne false (Ne.symm q2)]; exact this
/-- A region of reads but for a chain of operations one behind the other, and a last one behind all. -/
def chainOk (l : List Oper) (cs : List Nat) : Bool :=
  (List.range l.length).all (fun i => ((l[i]?).map fun o => o.after.all fun e => !Region.binds .any e || decide (e.on < i)).getD true) &&
  (List.range (cs.length - 1)).all (fun k => waitsOn l (cs.getD (k + 1) 0) (cs.getD k 0)) &&
  cs.all (fun c => decide (c + 1 < l.length)) && (List.range (l.length - 1)).all (fun i => reachB l l.length (l.length - 1) i) && decide (0 < l.length)
structure ChInv (F : (Nat → Value) → Act) (cs : List Nat) (Val : Nat → Value → Prop) (R : Nat → (Nat → Value) → World → Prop) (listed : Array Bool) (a : Act) (w : World) (k : Nat) (vs : Nat → Value) : Prop where
  le : k ≤ cs.length
  on : ∀ j c, cs[j]? = some c → j < k → listed.getD c false = true
  off : ∀ j c, cs[j]? = some c → k ≤ j → listed.getD c false = false
  frame : a = F vs
  inv : R k vs w
  val : ∀ i, listed.getD i false = true → i ∉ cs → Val i (vs i)
def PurePost (F : (Nat → Value) → Act) (Val : Nat → Value → Prop) (vs : Nat → Value) (w : World) (i : Nat) (a' : Act) (w' : World) : Prop := ∃ v, a' = F (upd vs i v) ∧ w' = w ∧ Val i v
theorem PurePost.mk' {Q : Exit → Act → World → Prop} {F : (Nat → Value) → Act} {Val : Nat → Value → Prop} {vs : Nat → Value} {w : World} {i : Nat} {a' : Act} (v : Value) (ha : a' = F (upd vs i v)) (hv : Val i v) : Kont Q (PurePost F Val vs w i) .normal a' w := show PurePost F Val vs w i a' w from ⟨v, ha, rfl, hv⟩
def ChainPost (F : (Nat → Value) → Act) (R : Nat → (Nat → Value) → World → Prop) (vs : Nat → Value) (k c : Nat) (a' : Act) (w' : World) : Prop := ∃ v, a' = F (upd vs c v) ∧ R (k + 1) (upd vs c v) w'
theorem ChainPost.mk' {Q : Exit → Act → World → Prop} {F : (Nat → Value) → Act} {R : Nat → (Nat → Value) → World → Prop} {vs : Nat → Value} {k c : Nat} {a' : Act} {w' : World} (v : Value) (ha : a' = F (upd vs c v)) (hv : R (k + 1) (upd vs c v) w') : Kont Q (ChainPost F R vs k c) .normal a' w' := show ChainPost F R vs k c a' w' from ⟨v, ha, hv⟩
theorem getD_set_self {listed : Array Bool} {i : Nat} (h : i < listed.size) : (listed.setIfInBounds i true).getD i false = true := by simp [h]
theorem getD_flip {listed : Array Bool} {i : Nat} (h : listed.getD i true = false) : listed.getD i false = false ∧ i < listed.size := by
  rcases Nat.lt_or_ge i listed.size with h' | h'
  · simp [h'] at h ⊢; exact h
  · simp [Array.getElem?_eq_none h'] at h
theorem wp_region_chain {P : Program} {id : Nat} {l : List Oper} {Q : Exit → Act → World → Prop} {a : Act} {w : World} (hm : P.follows .mixedOrders = true) (F : (Nat → Value) → Act) (cs : List Nat) (Val : Nat → Value → Prop) (R : Nat → (Nat → Value) → World → Prop) (vs0 : Nat → Value) (ha : a = F vs0) (hok : chainOk l cs = true)
    (hR0 : R 0 vs0 w.drew) (hloc : ∀ k vs i v w, i ∉ cs → R k vs w → R k (upd vs i v) w)
    (hpure : ∀ i o, l[i]? = some o → i ∉ cs → i + 1 < l.length → ∀ k vs w, R k vs w → (∀ e ∈ o.after, Region.binds .any e = true → e.on ∉ cs → Val e.on (vs e.on)) → wpList P l.toArray (Kont Q (PurePost F Val vs w i)) [o] (F vs) w)
    (hchain : ∀ k c o, cs[k]? = some c → l[c]? = some o → ∀ vs w, R k vs w → (∀ e ∈ o.after, Region.binds .any e = true → e.on ∉ cs → Val e.on (vs e.on)) → wpList P l.toArray (Kont Q (ChainPost F R vs k c)) [o] (F vs) w)
    (hlast : ∀ o, l[l.length - 1]? = some o → ∀ vs w, R cs.length vs w → (∀ i, i + 1 < l.length → i ∉ cs → Val i (vs i)) → wpList P l.toArray Q [o] (F vs) w) : (Code.region id l.toArray true).wp P Q a w := by
  unfold chainOk at hok
  simp only [Bool.and_eq_true, decide_eq_true_eq] at hok
  obtain ⟨⟨⟨⟨hfw, hch⟩, hcl⟩, hla⟩, hpos⟩ := hok
  have hchE : ∀ k, k + 1 < cs.length → waitsOn l (cs.getD (k + 1) 0) (cs.getD k 0) = true := fun k hk => by
    have := List.all_eq_true.1 hch k (by simp; omega)
    simpa using this
  have hclE : ∀ c ∈ cs, c + 1 < l.length := fun c hc => by simpa using List.all_eq_true.1 hcl c hc
  have hlaE : ∀ i, i + 1 < l.length → reachB l l.length (l.length - 1) i = true := fun i hi => List.all_eq_true.1 hla i (by simp; omega)
  have hlc : l.length - 1 ∉ cs := fun h => by have := hclE _ h; omega
  refine wp_region_any hm ?_
  refine wpAny_inv (fun listed a' w' => (listed.getD (l.length - 1) false = true ∧ (∀ i, i < l.length → listed.getD i false = true) ∧ Q .normal a' w') ∨ (listed.getD (l.length - 1) false = false ∧ DownC l listed ∧ ∃ k vs, ChInv F cs Val R listed a' w' k vs)) ?_ ?_ _ _ _ _ (by simp) ?_ ?_
  · rintro listed a' w' hs hI i hi
    obtain ⟨h0, o, ho, hall⟩ := mem_ready.1 hi
    obtain ⟨h0f, hisz⟩ := getD_flip h0
    have hil : i < l.length := by simpa [hs] using hisz
    have ho' : l[i]? = some o := by simpa using ho
    rcases hI with ⟨_, hd, _⟩ | ⟨hnl, hdc, k, vs, h⟩
    · rw [hd i hil] at h0f; cases h0f
    · have hdep : ∀ e ∈ o.after, Region.binds .any e = true → e.on ∉ cs → Val e.on (vs e.on) := fun e he hb hc => h.val _ (hall e he hb) hc
      have hne : ∀ j, (listed.setIfInBounds i true).getD j false = true → j = i ∨ (j ≠ i ∧ listed.getD j false = true) := fun j hj => by
        by_cases e : j = i
        · exact .inl e
        · exact .inr ⟨e, by rw [getD_set_ne false (Ne.symm e)] at hj; exact hj⟩
      by_cases hlst : i = l.length - 1
      · -- the last one
        have hAll : ∀ j, j + 1 < l.length → listed.getD j false = true := fun j hj => by
          have hr := hlaE j hj
          obtain ⟨f, hf⟩ : ∃ f, l.length = f + 1 := ⟨l.length - 1, by omega⟩
          rw [show reachB l l.length (l.length - 1) j = reachB l (f + 1) (l.length - 1) j by rw [← hf]] at hr
          simp only [reachB, Bool.or_eq_true] at hr
          rcases hr with hr | hr
          · obtain ⟨e, he, hb, hej⟩ := waitsOn_spec (by rw [← hlst]; exact ho') hr
            have := hall e he hb
            rw [hej] at this; exact this
          · obtain ⟨k, _, hk⟩ := List.any_eq_true.1 hr
            simp only [Bool.and_eq_true] at hk
            obtain ⟨e, he, hb, hej⟩ := waitsOn_spec (by rw [← hlst]; exact ho') hk.1
            have h1 := hall e he hb
            rw [hej] at h1
            exact hdc.reach f h1 hk.2
        have hk : k = cs.length := by
          rcases Nat.lt_or_ge k cs.length with h' | h'
          · have h1 := h.off k cs[k] (by simp [h']) (Nat.le_refl _)
            rw [hAll _ (hclE _ (List.getElem_mem h'))] at h1
            cases h1
          · have := h.le
            omega
        subst hk
        rw [h.frame]
        have hw := hlast o (by rw [← hlst]; exact ho') vs w' h.inv (fun j hj hc => h.val j (hAll j hj) hc)
        refine wpOp_of_list ho (wpList_q ?_ hw)
        intro a2 w2 hq
        refine .inl ⟨by rw [← hlst]; exact getD_set_self (by simpa using hisz), fun j hj => ?_, hq⟩
        by_cases e : j = i
        · rw [e]; exact getD_set_self hisz
        · rw [getD_set_ne false (Ne.symm e)]; exact hAll j (by omega)
      · have hi1 : i + 1 < l.length := by omega
        have hnl' : (listed.setIfInBounds i true).getD (l.length - 1) false = false := by rw [getD_set_ne false hlst]; exact hnl
        rw [h.frame]
        by_cases hc : i ∈ cs
        · -- the next of the chain
          obtain ⟨j, hj⟩ := List.mem_iff_getElem?.1 hc
          have hjl : j < cs.length := (List.getElem?_eq_some_iff.1 hj).1
          have hjk : k ≤ j := by
            rcases Nat.lt_or_ge j k with h' | h'
            · rw [h.on j i hj h'] at h0f; cases h0f
            · exact h'
          have hjk2 : j = k := by
            rcases Nat.lt_or_ge k j with h' | h'
            · exfalso
              have hj1 : j - 1 < cs.length := by omega
              have hwt := hchE (j - 1) (by omega)
              rw [show j - 1 + 1 = j by omega] at hwt
              have e1 : cs.getD j 0 = i := by simp [List.getD, hj]
              have e2 : cs.getD (j - 1) 0 = cs[j - 1] := by simp [hj1]
              rw [e1, e2] at hwt
              obtain ⟨e, he, hb, hee⟩ := waitsOn_spec ho' hwt
              have h1 := hall e he hb
              rw [hee, h.off (j - 1) cs[j - 1] (by simp [hj1]) (by omega)] at h1
              cases h1
            · omega
          subst hjk2
          refine wpOp_mono ?_ (wpOp_of_list ho (hchain j i o hj ho' vs w' h.inv hdep))
          rintro a2 w2 ⟨v, rfl, hR⟩
          refine .inr ⟨hnl', DownC.set listed i o ho' hisz hdc hall, j + 1, upd vs i v, ⟨by omega, fun j' c hc' hlt => ?_, fun j' c hc' hge => ?_, rfl, hR, fun q hq hqc => ?_⟩⟩
          · by_cases e : c = i
            · rw [e]; exact getD_set_self hisz
            · rw [getD_set_ne false (Ne.symm e)]
              refine h.on j' c hc' ?_
              rcases Nat.lt_or_ge j' j with h' | h'
              · exact h'
              · exfalso
                have : j' = j := by omega
                subst this
                rw [hj] at hc'
                exact e (by simpa using hc'.symm)
          · have hne' : c ≠ i := fun e => by
              subst e
              -- a chain has each once: the later one waits for the earlier
              have h1 := h.off j' c hc' (by omega)
              have hj1 : j' - 1 < cs.length := by have := (List.getElem?_eq_some_iff.1 hc').1; omega
              have hwt := hchE (j' - 1) (by have := (List.getElem?_eq_some_iff.1 hc').1; omega)
              rw [show j' - 1 + 1 = j' by omega] at hwt
              have e1 : cs.getD j' 0 = c := by simp [List.getD, hc']
              have e2 : cs.getD (j' - 1) 0 = cs[j' - 1] := by simp [hj1]
              rw [e1, e2] at hwt
              obtain ⟨e, he, hb, hee⟩ := waitsOn_spec ho' hwt
              have h2 := hall e he hb
              rw [hee, h.off (j' - 1) cs[j' - 1] (by simp [hj1]) (by omega)] at h2
              cases h2
            rw [getD_set_ne false (Ne.symm hne')]
            exact h.off j' c hc' (by omega)
          · rcases hne q hq with e | ⟨e, hq'⟩
            · exact absurd (e ▸ hc) hqc
            · rw [upd_other _ _ e]; exact h.val q hq' hqc
        · refine wpOp_mono ?_ (wpOp_of_list ho (hpure i o ho' hc hi1 k vs w' h.inv hdep))
          rintro a2 w2 ⟨v, rfl, rfl, hV⟩
          refine .inr ⟨hnl', DownC.set listed i o ho' hisz hdc hall, k, upd vs i v, ⟨h.le, fun j' c hc' hlt => getD_set_true (h.on j' c hc' hlt), fun j' c hc' hge => ?_, rfl, hloc k vs i v _ hc h.inv, fun q hq hqc => ?_⟩⟩
          · have hne' : c ≠ i := fun e => hc (e ▸ List.mem_of_getElem? hc')
            rw [getD_set_ne false (Ne.symm hne')]
            exact h.off j' c hc' hge
          · rcases hne q hq with e | ⟨e, hq'⟩
            · rw [e, upd_same]; exact hV
            · rw [upd_other _ _ e]; exact h.val q hq' hqc
  · rintro listed a' w' hs hI hr
    rcases hI with ⟨_, _, hq⟩ | ⟨hnl, _⟩
    · exact hq
    · have hd := regForward_done (l := l) hfw listed (by simpa using hs) hr (l.length - 1) (by omega)
      rw [hd] at hnl; cases hnl
  · simp [unlisted]
  · refine .inr ⟨by rcases Nat.lt_or_ge (l.length - 1) l.length with h' | h' <;> simp [h'], fun i o _ hl => absurd hl (by rcases Nat.lt_or_ge i l.length with h' | h' <;> simp [h']), 0, vs0, ⟨Nat.zero_le _, fun j c _ h => absurd h (by omega), fun j c _ _ => ?_, ha, hR0, fun i hi => ?_⟩⟩
    · rcases Nat.lt_or_ge c l.length with h' | h' <;> simp [h']
    · rcases Nat.lt_or_ge i l.length with h' | h' <;> simp [h'] at hi
/-- A region whose operations make memory, then a chain of writes; pure operations may come at any time; a last one behind all. -/
def mixedOk (l : List Oper) (t1 : Nat) (ts : List Nat) (pureB : Nat → Bool) : Bool :=
  (List.range l.length).all (fun i => ((l[i]?).map fun o => o.after.all fun e => !Region.binds .any e || decide (e.on < i)).getD true) &&
  (List.range ts.length).all (fun k => waitsOn l ((t1 :: ts).getD (k + 1) 0) ((t1 :: ts).getD k 0)) &&
  (t1 :: ts).all (fun c => decide (c + 1 < l.length) && !pureB c) && (List.range (l.length - 1)).all (fun i => waitsOn l (l.length - 1) i) && decide (0 < l.length) &&
  (List.range (l.length - 1)).all (fun i => pureB i || (t1 :: ts).contains i || reachB l l.length t1 i)
structure MxInv (F : (Nat → Value) → Act) (cs : List Nat) (pureB : Nat → Bool) (PV : Nat → Value → Prop) (R : Nat → (Nat → Value) → World → Prop) (listed : Array Bool) (a : Act) (w : World) (k : Nat) (vs : Nat → Value) : Prop where
  le : k < cs.length
  on : ∀ j c, cs[j]? = some c → j ≤ k → listed.getD c false = true
  off : ∀ j c, cs[j]? = some c → k < j → listed.getD c false = false
  frame : a = F vs
  inv : R k vs w
  val : ∀ i, listed.getD i false = true → pureB i = true → PV i (vs i)
theorem wp_region_mixed {P : Program} {id : Nat} {l : List Oper} {Q : Exit → Act → World → Prop} {a : Act} {w : World} (hm : P.follows .mixedOrders = true) (F : (Nat → Value) → Act) (Val : Nat → Value → Nat → Nat → World → Prop) (src : Nat → Option Nat) (hs1 : ∀ i i' j, src i = some j → src i' = some j → i = i') (hs2 : ∀ i j, src i = some j → src j = none)
    (t1 : Nat) (ts : List Nat) (pureB : Nat → Bool) (PV : Nat → Value → Prop) (R : Nat → (Nat → Value) → World → Prop) (vs0 : Nat → Value) (ha : a = F vs0) (hok : mixedOk l t1 ts pureB = true)
    (hst : ∀ i v lo hi w w', Below w.heap.size w w' → hi ≤ w.heap.size → Val i v lo hi w → Val i v lo hi w')
    (hPV : ∀ i v lo hi w, pureB i = true → Val i v lo hi w → PV i v)
    (hloc : ∀ k vs i v w, pureB i = true → R k vs w → R k (upd vs i v) w)
    (hop : ∀ i o, l[i]? = some o → i ∉ t1 :: ts → i + 1 < l.length → RegStep2 P l Q F Val src w i o)
    (hpure : ∀ i o, l[i]? = some o → pureB i = true → i + 1 < l.length → ∀ k vs w', R k vs w' → (∀ e ∈ o.after, Region.binds .any e = true → pureB e.on = true → PV e.on (vs e.on)) → wpList P l.toArray (Kont Q (PurePost F PV vs w' i)) [o] (F vs) w')
    (hfirst : ∀ o, l[t1]? = some o → ∀ (vs : Nat → Value) (lo hi : Nat → Nat) (w' : World), Below w.heap.size w w' → (∀ e ∈ o.after, Region.binds .any e = true → Val e.on (vs e.on) (lo e.on) (hi e.on) w' ∧ w.heap.size ≤ lo e.on ∧ hi e.on ≤ w'.heap.size ∧ (∀ e' ∈ o.after, Region.binds .any e' = true → e.on ≠ e'.on → src e.on ≠ some e'.on → src e'.on ≠ some e.on → hi e.on ≤ lo e'.on ∨ hi e'.on ≤ lo e.on)) → wpList P l.toArray (Kont Q (fun a' w'' => ∃ v, a' = F (upd vs t1 v) ∧ R 0 (upd vs t1 v) w'')) [o] (F vs) w')
    (hnext : ∀ k c o, ts[k]? = some c → l[c]? = some o → ∀ vs w', R k vs w' → (∀ e ∈ o.after, Region.binds .any e = true → pureB e.on = true → PV e.on (vs e.on)) → wpList P l.toArray (Kont Q (ChainPost F R vs k c)) [o] (F vs) w')
    (hlast : ∀ o, l[l.length - 1]? = some o → ∀ vs w', R ts.length vs w' → (∀ i, i + 1 < l.length → pureB i = true → PV i (vs i)) → wpList P l.toArray Q [o] (F vs) w') : (Code.region id l.toArray true).wp P Q a w := by
  unfold mixedOk at hok
  simp only [Bool.and_eq_true, decide_eq_true_eq] at hok
  obtain ⟨⟨⟨⟨⟨hfw, hch⟩, hcl⟩, hla⟩, hpos⟩, hre⟩ := hok
  have hchE : ∀ k, k < ts.length → waitsOn l ((t1 :: ts).getD (k + 1) 0) ((t1 :: ts).getD k 0) = true := fun k hk => List.all_eq_true.1 hch k (by simpa using hk)
  have hclE : ∀ c ∈ t1 :: ts, c + 1 < l.length ∧ pureB c = false := fun c hc => by
    have := List.all_eq_true.1 hcl c hc
    simpa using this
  have hlaE : ∀ i, i + 1 < l.length → waitsOn l (l.length - 1) i = true := fun i hi => List.all_eq_true.1 hla i (by simp; omega)
  have hreE : ∀ i, i + 1 < l.length → pureB i = true ∨ i ∈ t1 :: ts ∨ reachB l l.length t1 i = true := fun i hi => by
    have := List.all_eq_true.1 hre i (by simp; omega)
    simp only [Bool.or_eq_true, List.contains_iff_mem] at this
    rcases this with (h | h) | h
    · exact .inl h
    · exact .inr (.inl h)
    · exact .inr (.inr h)
  -- the cs-operations come up in their order
  have hseq : ∀ (listed : Array Bool) (j : Nat) (c : Nat), DownC l listed → (t1 :: ts)[j]? = some c → listed.getD c false = true → ∀ j' c', j' < j → (t1 :: ts)[j']? = some c' → listed.getD c' false = true := by
    intro listed j
    induction j with
    | zero => intro c _ _ _ j' c' h; omega
    | succ j ih =>
      intro c hd hc hl j' c' hlt hc'
      have hjl : j < ts.length := by have := (List.getElem?_eq_some_iff.1 hc).1; simp at this; omega
      have hw := hchE j hjl
      have e1 : (t1 :: ts).getD (j + 1) 0 = c := by simp only [List.getD, hc]; rfl
      have hj' : j < (t1 :: ts).length := by simp; omega
      have e2 : (t1 :: ts).getD j 0 = (t1 :: ts)[j] := by simp [List.getD, List.getElem?_eq_getElem hj']
      rw [e1, e2] at hw
      have h1 := hd.waits hl hw
      rcases Nat.lt_or_ge j' j with h' | h'
      · exact ih _ hd (List.getElem?_eq_getElem hj') h1 j' c' h' hc'
      · have : j' = j := by omega
        subst this
        rw [List.getElem?_eq_getElem hj'] at hc'
        cases hc'
        exact h1
  have hdset : ∀ (listed : Array Bool) (i : Nat) (o : Oper), l[i]? = some o → DownC l listed → (∀ e ∈ o.after, Region.binds .any e = true → listed.getD e.on false = true) → DownC l (listed.setIfInBounds i true) := by
    intro listed i o ho hd hall j o' ho' hj e he hb
    by_cases hji : j = i
    · subst hji
      rw [ho] at ho'
      cases ho'
      exact getD_set_true (hall e he hb)
    · rw [getD_set_ne false (Ne.symm hji)] at hj
      exact getD_set_true (hd j o' ho' hj e he hb)
  refine wp_region_any hm ?_
  refine wpAny_inv (fun listed a' w' => DownC l listed ∧ ((listed.getD (l.length - 1) false = true ∧ (∀ i, i < l.length → listed.getD i false = true) ∧ Q .normal a' w') ∨ (listed.getD (l.length - 1) false = false ∧ listed.getD t1 false = false ∧ ∃ vs lo hi, RegInv F Val src w listed a' w' vs lo hi) ∨ (listed.getD (l.length - 1) false = false ∧ ∃ k vs, MxInv F (t1 :: ts) pureB PV R listed a' w' k vs))) ?_ ?_ _ _ _ _ (by simp) ?_ ?_
  · rintro listed a' w' hs ⟨hd, hI⟩ i hi
    obtain ⟨h0, o, ho, hall⟩ := mem_ready.1 hi
    obtain ⟨h0f, hisz⟩ := getD_flip h0
    have hil : i < l.length := by simpa [hs] using hisz
    have ho' : l[i]? = some o := by simpa using ho
    have hd' := hdset listed i o ho' hd hall
    have hne : ∀ j, (listed.setIfInBounds i true).getD j false = true → j = i ∨ (j ≠ i ∧ listed.getD j false = true) := fun j hj => by
      by_cases e : j = i
      · exact .inl e
      · exact .inr ⟨e, by rw [getD_set_ne false (Ne.symm e)] at hj; exact hj⟩
    have hAll : i = l.length - 1 → ∀ j, j + 1 < l.length → listed.getD j false = true := fun hlst j hj => by
      obtain ⟨e, he, hb, hej⟩ := waitsOn_spec (by rw [← hlst]; exact ho') (hlaE j hj)
      have := hall e he hb
      rw [hej] at this; exact this
    rcases hI with ⟨_, hdn, _⟩ | ⟨hnl, hn1, vs, lo, hi', h⟩ | ⟨hnl, k, vs, h⟩
    · rw [hdn i hil] at h0f; cases h0f
    · -- memory is made
      have hw : w.heap.size ≤ w'.heap.size := h.below.size
      have hlst : i ≠ l.length - 1 := fun e => by
        have := hAll e t1 (hclE t1 (by simp)).1
        rw [hn1] at this; cases this
      have hi1 : i + 1 < l.length := by omega
      have hnl' : (listed.setIfInBounds i true).getD (l.length - 1) false = false := by rw [getD_set_ne false hlst]; exact hnl
      have hdeps : ∀ e ∈ o.after, Region.binds .any e = true → Val e.on (vs e.on) (lo e.on) (hi' e.on) w' ∧ w.heap.size ≤ lo e.on ∧ hi' e.on ≤ w'.heap.size ∧ (∀ e' ∈ o.after, Region.binds .any e' = true → e.on ≠ e'.on → src e.on ≠ some e'.on → src e'.on ≠ some e.on → hi' e.on ≤ lo e'.on ∨ hi' e'.on ≤ lo e.on) := fun e he hb => ⟨h.val _ (hall e he hb), h.ge _ (hall e he hb), h.lt _ (hall e he hb), fun e' he' hb' hne' n1 n2 => h.apart _ _ (hall e he hb) (hall e' he' hb') hne' n1 n2⟩
      rw [h.frame]
      by_cases hc : i ∈ t1 :: ts
      · -- the first of the chain
        have hit : i = t1 := by
          obtain ⟨j, hj⟩ := List.mem_iff_getElem?.1 hc
          cases j with
          | zero => simpa using hj.symm
          | succ j =>
            exfalso
            have hjl : j < ts.length := by have := (List.getElem?_eq_some_iff.1 hj).1; simp at this; omega
            have hwt := hchE j hjl
            have e1 : (t1 :: ts).getD (j + 1) 0 = i := by simp only [List.getD, hj]; rfl
            have hj' : j < (t1 :: ts).length := by simp; omega
            have e2 : (t1 :: ts).getD j 0 = (t1 :: ts)[j] := by simp [List.getD, List.getElem?_eq_getElem hj']
            rw [e1, e2] at hwt
            obtain ⟨e, he, hb, hee⟩ := waitsOn_spec ho' hwt
            have h1 := hall e he hb
            rw [hee] at h1
            have h2 : listed.getD t1 false = true := by
              cases j with
              | zero => simpa using h1
              | succ j => exact hseq listed (j + 1) _ hd (List.getElem?_eq_getElem hj') h1 0 t1 (by omega) rfl
            rw [hn1] at h2; cases h2
        subst hit
        refine wpOp_mono ?_ (wpOp_of_list ho (hfirst o ho' vs lo hi' w' h.below hdeps))
        rintro a2 w2 ⟨v, rfl, hR⟩
        refine ⟨hd', .inr (.inr ⟨hnl', 0, upd vs i v, ⟨by simp, fun j c hj hle => ?_, fun j c hj hlt => ?_, rfl, hR, fun q hq hqp => ?_⟩⟩)⟩
        · have : j = 0 := by omega
          subst this
          have : c = i := by simpa using hj.symm
          rw [this]; exact getD_set_self hisz
        · cases hcl : (listed.setIfInBounds i true).getD c false with
          | false => rfl
          | true =>
            exfalso
            rcases hne c hcl with e | ⟨e, hcl'⟩
            · -- a later one of the chain is the first: it would wait for itself
              obtain ⟨j, rfl⟩ : ∃ j', j = j' + 1 := ⟨j - 1, by omega⟩
              have hjl : j < ts.length := by have := (List.getElem?_eq_some_iff.1 hj).1; simp at this; omega
              have hwt := hchE j hjl
              have e1 : (i :: ts).getD (j + 1) 0 = c := by simp only [List.getD, hj]; rfl
              have hj' : j < (i :: ts).length := by simp; omega
              have e2 : (i :: ts).getD j 0 = (i :: ts)[j] := by simp [List.getD, List.getElem?_eq_getElem hj']
              rw [e1, e2, e] at hwt
              obtain ⟨e', he', hb', hee⟩ := waitsOn_spec ho' hwt
              have h1 := hall e' he' hb'
              rw [hee] at h1
              cases j with
              | zero =>
                have : listed.getD i false = true := by simpa using h1
                rw [hn1] at this; cases this
              | succ j =>
                have := hseq listed (j + 1) _ hd (List.getElem?_eq_getElem hj') h1 0 i (by omega) rfl
                rw [hn1] at this; cases this
            · have := hseq listed j c hd hj hcl' 0 i (by omega) rfl
              rw [hn1] at this; cases this
        · rcases hne q hq with e | ⟨e, hq'⟩
          · have := (hclE i (by simp)).2
            rw [e, this] at hqp; cases hqp
          · rw [upd_other _ _ e]; exact hPV _ _ _ _ _ hqp (h.val q hq')
      · -- one that makes memory, or a pure one
        have hl' : ∀ j, listed.getD j false = true → j ≠ i := fun j hj e => by subst e; rw [h0f] at hj; cases hj
        refine wpOp_mono ?_ (wpOp_of_list ho (hop i o ho' hc hi1 vs lo hi' w' h.below hdeps))
        rintro a2 w2 ⟨v, lo', hi2, rfl, hb, hv, hint⟩
        have hw2 := hb.size
        have f1 : w.heap.size ≤ lo' ∧ hi2 ≤ w2.heap.size ∧ lo' ≤ hi2 := by
          rcases hint with ⟨e1, e2⟩ | ⟨j, _, ⟨e, he, hb', rfl⟩, e1, e2⟩
          · subst e1; subst e2; exact ⟨hw, Nat.le_refl _, hw2⟩
          · have hj := hall e he hb'
            rw [e1, e2]
            exact ⟨h.ge _ hj, Nat.le_trans (h.lt _ hj) hw2, h.le _ hj⟩
        have f2 : ∀ k, listed.getD k false = true → src i ≠ some k → src k ≠ some i → hi2 ≤ lo k ∨ hi' k ≤ lo' := fun k hk n1 n2 => by
          rcases hint with ⟨e1, e2⟩ | ⟨j, hj', ⟨e, he, hb', hj⟩, e1, e2⟩
          · subst e1; exact .inr (h.lt k hk)
          · subst hj
            have hjl := hall e he hb'
            rw [e1, e2]
            have hne' : e.on ≠ k := fun q => n1 (by rw [hj', q])
            refine h.apart _ _ hjl hk hne' (by rw [hs2 _ _ hj']; simp) fun q => ?_
            exact hl' k hk (hs1 _ _ _ q hj')
        have hn1' : (listed.setIfInBounds i true).getD t1 false = false := by
          rw [getD_set_ne false (fun e => hc (by rw [e]; simp))]; exact hn1
        refine ⟨hd', .inr (.inl ⟨hnl', hn1', upd vs i v, updN lo i lo', updN hi' i hi2, rfl, h.below.trans (hb.mono hw), ?_, ?_, ?_, ?_, ?_⟩)⟩
        · intro j hj
          rcases hne j hj with rfl | ⟨e, hj⟩
          · rw [upd_same, updN_same, updN_same]; exact hv
          · rw [upd_other _ _ e, updN_other _ _ e, updN_other _ _ e]; exact hst _ _ _ _ _ _ hb (h.lt j hj) (h.val j hj)
        · intro j hj
          rcases hne j hj with rfl | ⟨e, hj⟩
          · rw [updN_same]; exact f1.1
          · rw [updN_other _ _ e]; exact h.ge j hj
        · intro j hj
          rcases hne j hj with rfl | ⟨e, hj⟩
          · rw [updN_same]; exact f1.2.1
          · rw [updN_other _ _ e]; exact Nat.le_trans (h.lt j hj) hw2
        · intro j hj
          rcases hne j hj with rfl | ⟨e, hj⟩
          · rw [updN_same, updN_same]; exact f1.2.2
          · rw [updN_other _ _ e, updN_other _ _ e]; exact h.le j hj
        · intro j k hj hk hne' n1 n2
          rcases hne j hj with ej | ⟨ej, hj'⟩
          · rcases hne k hk with ek | ⟨ek, hk'⟩
            · exact absurd (ej.trans ek.symm) hne'
            · subst ej
              rw [updN_same, updN_same, updN_other _ _ ek, updN_other _ _ ek]
              exact f2 k hk' n1 n2
          · rcases hne k hk with ek | ⟨ek, hk'⟩
            · subst ek
              rw [updN_same, updN_same, updN_other _ _ ej, updN_other _ _ ej]
              exact (f2 j hj' n2 n1).symm
            · rw [updN_other _ _ ej, updN_other _ _ ej, updN_other _ _ ek, updN_other _ _ ek]
              exact h.apart j k hj' hk' hne' n1 n2
    · -- the chain
      have ht1 : listed.getD t1 false = true := h.on 0 t1 rfl (Nat.zero_le _)
      have hdep : ∀ e ∈ o.after, Region.binds .any e = true → pureB e.on = true → PV e.on (vs e.on) := fun e he hb hp => h.val _ (hall e he hb) hp
      rw [h.frame]
      by_cases hlst : i = l.length - 1
      · have hk : k = ts.length := by
          rcases Nat.lt_or_ge k ts.length with h' | h'
          · have hk1 : k + 1 < (t1 :: ts).length := by simp; omega
            have h1 := h.off (k + 1) (t1 :: ts)[k + 1] (List.getElem?_eq_getElem hk1) (by omega)
            rw [hAll hlst _ (hclE _ (List.getElem_mem hk1)).1] at h1
            cases h1
          · have := h.le
            simp at this
            omega
        subst hk
        have hwl := hlast o (by rw [← hlst]; exact ho') vs w' h.inv (fun j hj hp => h.val j (hAll hlst j hj) hp)
        refine wpOp_of_list ho (wpList_q ?_ hwl)
        intro a2 w2 hq
        refine ⟨hd', .inl ⟨by rw [← hlst]; exact getD_set_self hisz, fun j hj => ?_, hq⟩⟩
        by_cases e : j = i
        · rw [e]; exact getD_set_self hisz
        · rw [getD_set_ne false (Ne.symm e)]; exact hAll hlst j (by omega)
      · have hi1 : i + 1 < l.length := by omega
        have hnl' : (listed.setIfInBounds i true).getD (l.length - 1) false = false := by rw [getD_set_ne false hlst]; exact hnl
        rcases hreE i hi1 with hp | hc | hr
        · refine wpOp_mono ?_ (wpOp_of_list ho (hpure i o ho' hp hi1 k vs w' h.inv hdep))
          rintro a2 w2 ⟨v, rfl, rfl, hV⟩
          refine ⟨hd', .inr (.inr ⟨hnl', k, upd vs i v, ⟨h.le, fun j c hj hle => getD_set_true (h.on j c hj hle), fun j c hj hlt => ?_, rfl, hloc k vs i v _ hp h.inv, fun q hq hqp => ?_⟩⟩)⟩
          · have hci : c ≠ i := fun e => by
              have := (hclE c (List.mem_of_getElem? hj)).2
              rw [e, hp] at this; cases this
            rw [getD_set_ne false (Ne.symm hci)]
            exact h.off j c hj hlt
          · rcases hne q hq with e | ⟨e, hq'⟩
            · rw [e, upd_same]; exact hV
            · rw [upd_other _ _ e]; exact h.val q hq' hqp
        · obtain ⟨j, hj⟩ := List.mem_iff_getElem?.1 hc
          have hjk : k < j := by
            rcases Nat.lt_or_ge k j with h' | h'
            · exact h'
            · rw [h.on j i hj h'] at h0f; cases h0f
          have hjl : j < (t1 :: ts).length := (List.getElem?_eq_some_iff.1 hj).1
          have hjk2 : j = k + 1 := by
            rcases Nat.lt_or_ge (k + 1) j with h' | h'
            · exfalso
              obtain ⟨j', rfl⟩ : ∃ j', j = j' + 1 := ⟨j - 1, by omega⟩
              have hwt := hchE j' (by simp at hjl; omega)
              have e1 : (t1 :: ts).getD (j' + 1) 0 = i := by simp only [List.getD, hj]; rfl
              have hj' : j' < (t1 :: ts).length := by omega
              have e2 : (t1 :: ts).getD j' 0 = (t1 :: ts)[j'] := by simp [List.getD, List.getElem?_eq_getElem hj']
              rw [e1, e2] at hwt
              obtain ⟨e, he, hb, hee⟩ := waitsOn_spec ho' hwt
              have h1 := hall e he hb
              rw [hee, h.off j' _ (List.getElem?_eq_getElem hj') (by omega)] at h1
              cases h1
            · omega
          subst hjk2
          have hjt : ts[k]? = some i := by simpa using hj
          refine wpOp_mono ?_ (wpOp_of_list ho (hnext k i o hjt ho' vs w' h.inv hdep))
          rintro a2 w2 ⟨v, rfl, hR⟩
          refine ⟨hd', .inr (.inr ⟨hnl', k + 1, upd vs i v, ⟨by omega, fun j c hjc hle => ?_, fun j c hjc hlt => ?_, rfl, hR, fun q hq hqp => ?_⟩⟩)⟩
          · by_cases e : c = i
            · rw [e]; exact getD_set_self hisz
            · rw [getD_set_ne false (Ne.symm e)]
              refine h.on j c hjc ?_
              rcases Nat.lt_or_ge k j with h' | h'
              · exfalso
                have : j = k + 1 := by omega
                subst this
                rw [hj] at hjc
                exact e (by simpa using hjc.symm)
              · exact h'
          · cases hcl2 : (listed.setIfInBounds i true).getD c false with
            | false => rfl
            | true =>
              exfalso
              rcases hne c hcl2 with e | ⟨e, hcl'⟩
              · obtain ⟨j', rfl⟩ : ∃ j', j = j' + 1 := ⟨j - 1, by omega⟩
                have hjl2 : j' < ts.length := by have := (List.getElem?_eq_some_iff.1 hjc).1; simp at this; omega
                have hwt := hchE j' hjl2
                have e1 : (t1 :: ts).getD (j' + 1) 0 = c := by simp only [List.getD, hjc]; rfl
                have hj' : j' < (t1 :: ts).length := by simp; omega
                have e2 : (t1 :: ts).getD j' 0 = (t1 :: ts)[j'] := by simp [List.getD, List.getElem?_eq_getElem hj']
                rw [e1, e2, e] at hwt
                obtain ⟨e', he', hb', hee⟩ := waitsOn_spec ho' hwt
                have h1 := hall e' he' hb'
                rw [hee, h.off j' _ (List.getElem?_eq_getElem hj') (by omega)] at h1
                cases h1
              · rw [h.off j c hjc (by omega)] at hcl'; cases hcl'
          · rcases hne q hq with e | ⟨e, hq'⟩
            · have := (hclE i hc).2
              rw [e, this] at hqp; cases hqp
            · rw [upd_other _ _ e]; exact h.val q hq' hqp
        · -- what makes memory has come up
          rw [hd.reach _ ht1 hr] at h0f
          cases h0f
  · rintro listed a' w' hs ⟨hd, hI⟩ hr
    rcases hI with ⟨_, _, hq⟩ | ⟨hnl, _⟩ | ⟨hnl, _⟩
    · exact hq
    · have hdn := regForward_done (l := l) hfw listed (by simpa using hs) hr (l.length - 1) (by omega)
      rw [hdn] at hnl; cases hnl
    · have hdn := regForward_done (l := l) hfw listed (by simpa using hs) hr (l.length - 1) (by omega)
      rw [hdn] at hnl; cases hnl
  · simp [unlisted]
  · have hf : ∀ i, (Array.replicate l.length false).getD i false = false := fun i => by
      rcases Nat.lt_or_ge i l.length with h' | h' <;> simp [h']
    have hf' : ∀ i, (Array.replicate l.toArray.size false).getD i false = true → False := fun i h => by
      have := hf i
      simp only [List.size_toArray] at h
      rw [this] at h; cases h
    refine ⟨fun i o _ h => (hf' i h).elim, .inr (.inl ⟨by simpa using hf _, by simpa using hf _, vs0, fun _ => 0, fun _ => 0, ha, Below.drew (Below.refl _ _), fun i hi => (hf' i hi).elim, fun i hi => (hf' i hi).elim, fun i hi => (hf' i hi).elim, fun i hi => (hf' i hi).elim, fun i j hi => (hf' i hi).elim⟩)⟩
end Go.Proofs.Ytchcdlelaklnnaa
