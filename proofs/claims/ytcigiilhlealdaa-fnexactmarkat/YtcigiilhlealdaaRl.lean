/- A region whose operations make memory, each in an interval of blocks of its own, and a last one behind all. -/
import Derived.Test.YtcigiilhlealdaaRg
namespace Go.Proofs.Ytcigiilhlealdaa
set_option linter.unusedVariables false
open Go.ChangeShapes Go.WideShapes Go.ChangeAt Go.RowKit

def tailOk (l : List Oper) : Bool := regForward l && (List.range (l.length - 1)).all (fun i => waitsOn l (l.length - 1) i) && decide (0 < l.length)
theorem wp_region_tail {P : Program} {id : Nat} {l : List Oper} {Q : Exit → Act → World → Prop} {a : Act} {w : World} (hm : P.follows .mixedOrders = true) (F : (Nat → Value) → Act) (Val : Nat → Value → Nat → Nat → World → Prop) (src : Nat → Option Nat) (hs1 : ∀ i i' j, src i = some j → src i' = some j → i = i') (hs2 : ∀ i j, src i = some j → src j = none) (vs0 : Nat → Value) (ha : a = F vs0) (hok : tailOk l = true)
    (hst : ∀ i v lo hi w w', Below w.heap.size w w' → hi ≤ w.heap.size → Val i v lo hi w → Val i v lo hi w')
    (hop : ∀ i o, l[i]? = some o → i + 1 < l.length → RegStep2 P l Q F Val src w i o)
    (hlast : ∀ o, l[l.length - 1]? = some o → ∀ (vs : Nat → Value) (lo hi : Nat → Nat) (w' : World), Below w.heap.size w w' → (∀ i, i + 1 < l.length → Val i (vs i) (lo i) (hi i) w' ∧ w.heap.size ≤ lo i ∧ hi i ≤ w'.heap.size) → (∀ i j, i + 1 < l.length → j + 1 < l.length → i ≠ j → src i ≠ some j → src j ≠ some i → hi i ≤ lo j ∨ hi j ≤ lo i) → wpList P l.toArray Q [o] (F vs) w') : (Code.region id l.toArray true).wp P Q a w := by
  unfold tailOk at hok
  simp only [Bool.and_eq_true, decide_eq_true_eq] at hok
  obtain ⟨⟨hfw, hla⟩, hpos⟩ := hok
  have hlaE : ∀ i, i + 1 < l.length → waitsOn l (l.length - 1) i = true := fun i hi => List.all_eq_true.1 hla i (by simp; omega)
  refine wp_region_any hm ?_
  refine wpAny_inv (fun listed a' w' => (listed.getD (l.length - 1) false = true ∧ (∀ i, i < l.length → listed.getD i false = true) ∧ Q .normal a' w') ∨ (listed.getD (l.length - 1) false = false ∧ ∃ vs lo hi, RegInv F Val src w listed a' w' vs lo hi)) ?_ ?_ _ _ _ _ (by simp) ?_ ?_
  · rintro listed a w1 hs hI i hi'
    obtain ⟨h0, o, ho, hall⟩ := mem_ready.1 hi'
    obtain ⟨h0f, hisz⟩ := getD_flip h0
    have hil : i < l.length := by simpa [hs] using hisz
    have ho' : l[i]? = some o := by simpa using ho
    rcases hI with ⟨_, hd, _⟩ | ⟨hnl, vs, lo, hi, h⟩
    · rw [hd i hil] at h0f; cases h0f
    have hw : w.heap.size ≤ w1.heap.size := h.below.size
    have hl : ∀ j, listed.getD j false = true → j ≠ i := fun j hj e => by
      subst e
      rw [hj] at h0f; cases h0f
    have hset : ∀ j, (listed.setIfInBounds i true).getD j false = true → j = i ∨ (j ≠ i ∧ listed.getD j false = true) := fun j hj => by
      by_cases e : j = i
      · exact .inl e
      · exact .inr ⟨e, by rw [getD_set_ne false (Ne.symm e)] at hj; exact hj⟩
    by_cases hlst : i = l.length - 1
    · have hAll : ∀ j, j + 1 < l.length → listed.getD j false = true := fun j hj => by
        obtain ⟨e, he, hb, hej⟩ := waitsOn_spec (by rw [← hlst]; exact ho') (hlaE j hj)
        have := hall e he hb
        rw [hej] at this; exact this
      rw [h.frame]
      have hwl := hlast o (by rw [← hlst]; exact ho') vs lo hi w1 h.below (fun j hj => ⟨h.val j (hAll j hj), h.ge j (hAll j hj), h.lt j (hAll j hj)⟩) (fun i j hi hj hne n1 n2 => h.apart i j (hAll i hi) (hAll j hj) hne n1 n2)
      refine wpOp_of_list ho (wpList_q ?_ hwl)
      intro a2 w2 hq
      refine .inl ⟨by rw [← hlst]; exact getD_set_self (by simpa using hisz), fun j hj => ?_, hq⟩
      by_cases e : j = i
      · rw [e]; exact getD_set_self hisz
      · rw [getD_set_ne false (Ne.symm e)]; exact hAll j (by omega)
    have hi1 : i + 1 < l.length := by omega
    have hnl' : (listed.setIfInBounds i true).getD (l.length - 1) false = false := by rw [getD_set_ne false hlst]; exact hnl
    rw [h.frame]
    refine wpOp_mono ?_ (wpOp_of_list ho (hop i o ho' hi1 vs lo hi w1 h.below fun e he hb => ⟨h.val _ (hall e he hb), h.ge _ (hall e he hb), h.lt _ (hall e he hb), fun e' he' hb' hne n1 n2 => h.apart _ _ (hall e he hb) (hall e' he' hb') hne n1 n2⟩))
    rintro a' w2 ⟨v, lo', hi2, rfl, hb, hv, hint⟩
    have hw2 := hb.size
    -- where the interval lies
    have f1 : w.heap.size ≤ lo' ∧ hi2 ≤ w2.heap.size ∧ lo' ≤ hi2 := by
      rcases hint with ⟨e1, e2⟩ | ⟨j, _, ⟨e, he, hb', rfl⟩, e1, e2⟩
      · subst e1; subst e2; exact ⟨hw, Nat.le_refl _, hw2⟩
      · have hj := hall e he hb'
        rw [e1, e2]
        exact ⟨h.ge _ hj, Nat.le_trans (h.lt _ hj) hw2, h.le _ hj⟩
    have f2 : ∀ k, listed.getD k false = true → src i ≠ some k → src k ≠ some i → hi2 ≤ lo k ∨ hi k ≤ lo' := fun k hk n1 n2 => by
      rcases hint with ⟨e1, e2⟩ | ⟨j, hj', ⟨e, he, hb', hj⟩, e1, e2⟩
      · subst e1; exact .inr (h.lt k hk)
      · subst hj
        have hjl := hall e he hb'
        rw [e1, e2]
        have hne : e.on ≠ k := fun q => n1 (by rw [hj', q])
        refine h.apart _ _ hjl hk hne (by rw [hs2 _ _ hj']; simp) fun q => ?_
        exact hl k hk (hs1 _ _ _ q hj')
    refine .inr ⟨hnl', upd vs i v, updN lo i lo', updN hi i hi2, rfl, h.below.trans (hb.mono hw), ?_, ?_, ?_, ?_, ?_⟩
    · intro j hj
      rcases hset j hj with rfl | ⟨e, hj⟩
      · rw [upd_same, updN_same, updN_same]; exact hv
      · rw [upd_other _ _ e, updN_other _ _ e, updN_other _ _ e]; exact hst _ _ _ _ _ _ hb (h.lt j hj) (h.val j hj)
    · intro j hj
      rcases hset j hj with rfl | ⟨e, hj⟩
      · rw [updN_same]; exact f1.1
      · rw [updN_other _ _ e]; exact h.ge j hj
    · intro j hj
      rcases hset j hj with rfl | ⟨e, hj⟩
      · rw [updN_same]; exact f1.2.1
      · rw [updN_other _ _ e]; exact Nat.le_trans (h.lt j hj) hw2
    · intro j hj
      rcases hset j hj with rfl | ⟨e, hj⟩
      · rw [updN_same, updN_same]; exact f1.2.2
      · rw [updN_other _ _ e, updN_other _ _ e]; exact h.le j hj
    · intro j k hj hk hne n1 n2
      rcases hset j hj with ej | ⟨ej, hj'⟩
      · rcases hset k hk with ek | ⟨ek, hk'⟩
        · exact absurd (ej.trans ek.symm) hne
        · subst ej
          rw [updN_same, updN_same, updN_other _ _ ek, updN_other _ _ ek]
          exact f2 k hk' n1 n2
      · rcases hset k hk with ek | ⟨ek, hk'⟩
        · subst ek
          rw [updN_same, updN_same, updN_other _ _ ej, updN_other _ _ ej]
          exact (f2 j hj' n2 n1).symm
        · rw [updN_other _ _ ej, updN_other _ _ ej, updN_other _ _ ek, updN_other _ _ ek]
          exact h.apart j k hj' hk' hne n1 n2
  · rintro listed a' w' hs hI hr
    rcases hI with ⟨_, _, hq⟩ | ⟨hnl, _⟩
    · exact hq
    · have hd := regForward_done (l := l) hfw listed (by simpa using hs) hr (l.length - 1) (by omega)
      rw [hd] at hnl; cases hnl
  · simp [unlisted]
  · have hf : ∀ i, (Array.replicate l.length false).getD i false = true → False := fun i h => by
      rcases Nat.lt_or_ge i l.length with h' | h'
      · simp [h'] at h
      · simp [h'] at h
    refine .inr ⟨by rcases Nat.lt_or_ge (l.length - 1) l.length with h' | h' <;> simp [h'], vs0, fun _ => 0, fun _ => 0, ha, Below.drew (Below.refl _ _), fun i hi => (hf i (by simpa using hi)).elim, fun i hi => (hf i (by simpa using hi)).elim, fun i hi => (hf i (by simpa using hi)).elim, fun i hi => (hf i (by simpa using hi)).elim, fun i j hi => (hf i (by simpa using hi)).elim⟩
end Go.Proofs.Ytcigiilhlealdaa
