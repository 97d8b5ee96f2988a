/- What is reached: the plain mathematics. -/
import Derived.Test.YtkpeimklcoggkaaObA
namespace Go.Proofs.Ytkpeimklcoggkaa
set_option linter.unusedVariables false
open Go.ChangeShapes Go.WideShapes Go.ChangeAt Go.RowKit

/-! ### What is reached: the plain mathematics -/
inductive Rch (N : Nat) (roots : List Int) (out : Nat → List Int) : Nat → Prop
  | root (n : Nat) (h : (n : Int) ∈ roots) (h1 : 1 ≤ n) (h2 : n ≤ N) : Rch N roots out n
  | step (m n : Nat) (hm : Rch N roots out m) (h : (n : Int) ∈ out m) (h1 : 1 ≤ n) (h2 : n ≤ N) : Rch N roots out n
theorem Rch.range {N : Nat} {roots : List Int} {out : Nat → List Int} {n : Nat} (h : Rch N roots out n) : 1 ≤ n ∧ n ≤ N := by
  cases h with
  | root _ h h1 h2 => exact ⟨h1, h2⟩
  | step m _ hm h h1 h2 => exact ⟨h1, h2⟩
/-- A search under way: what is marked, what is still to be looked at. -/
structure Srch (N : Nat) (roots : List Int) (out : Nat → List Int) (inn : List Bool) (todo : List Int) : Prop where
  len : inn.length = N + 1
  s1 : ∀ n, inn[n]? = some true → Rch N roots out n
  s2 : ∀ t : Nat, (t : Int) ∈ todo → 1 ≤ t → t ≤ N → Rch N roots out t
  c1 : ∀ r : Nat, (r : Int) ∈ roots → 1 ≤ r → r ≤ N → inn[r]? = some true ∨ (r : Int) ∈ todo
  c2 : ∀ m, inn[m]? = some true → ∀ r : Nat, (r : Int) ∈ out m → 1 ≤ r → r ≤ N → inn[r]? = some true ∨ (r : Int) ∈ todo
theorem Srch.start (N : Nat) (roots : List Int) (out : Nat → List Int) : Srch N roots out (List.replicate (N + 1) false) roots := by
  refine ⟨by simp, fun n h => ?_, fun t h h1 h2 => .root t h h1 h2, fun r h _ _ => .inr h, fun m h => ?_⟩
  · rw [List.getElem?_replicate] at h; split at h <;> simp at h
  · rw [List.getElem?_replicate] at h; split at h <;> simp at h
/-- What is looked at is out of range. -/
theorem Srch.skip {N : Nat} {roots : List Int} {out : Nat → List Int} {inn : List Bool} {todo todo' : List Int} {t : Int} (h : Srch N roots out inn todo) (hsub : ∀ x, x ∈ todo → x = t ∨ x ∈ todo') (hsub' : ∀ x, x ∈ todo' → x ∈ todo) (ht : t < 1 ∨ (N : Int) < t ∨ inn[t.toNat]? = some true) : Srch N roots out inn todo' := by
  have key : ∀ r : Nat, 1 ≤ r → r ≤ N → inn[r]? = some true ∨ (r : Int) ∈ todo → inn[r]? = some true ∨ (r : Int) ∈ todo' := fun r h1 h2 hr => by
    rcases hr with hr | hr
    · exact .inl hr
    · rcases hsub _ hr with e | e
      · rcases ht with q | q | q
        · omega
        · omega
        · left; rw [← e] at q; simpa using q
      · exact .inr e
  exact ⟨h.len, h.s1, fun t hm h1 h2 => h.s2 t (hsub' _ hm) h1 h2, fun r hr h1 h2 => key r h1 h2 (h.c1 r hr h1 h2), fun m hm r hr h1 h2 => key r h1 h2 (h.c2 m hm r hr h1 h2)⟩
/-- What is looked at is marked, and what it names is to be looked at. -/
theorem Srch.mark {N : Nat} {roots : List Int} {out : Nat → List Int} {inn : List Bool} {todo todo' : List Int} {t : Nat} (h : Srch N roots out inn todo) (hsub : ∀ x, x ∈ todo → x = (t : Int) ∨ x ∈ todo') (hsub' : ∀ x, x ∈ todo' → x ∈ todo ∨ x ∈ out t) (hout : ∀ x, x ∈ out t → x ∈ todo') (hin : (t : Int) ∈ todo) (h1 : 1 ≤ t) (h2 : t ≤ N) : Srch N roots out (inn.set t true) todo' := by
  have hlen := h.len
  have hR : Rch N roots out t := h.s2 t hin h1 h2
  have get : ∀ m, (inn.set t true)[m]? = some true ↔ m = t ∨ inn[m]? = some true := fun m => by
    rw [List.getElem?_set]
    by_cases e : t = m
    · subst e; simp; omega
    · simp only [e, if_false]
      constructor
      · exact .inr
      · rintro (q | q)
        · exact absurd q.symm e
        · exact q
  have key : ∀ r : Nat, inn[r]? = some true ∨ (r : Int) ∈ todo → (inn.set t true)[r]? = some true ∨ (r : Int) ∈ todo' := fun r hr => by
    rcases hr with hr | hr
    · exact .inl ((get r).2 (.inr hr))
    · rcases hsub _ hr with e | e
      · left; exact (get r).2 (.inl (by omega))
      · exact .inr e
  refine ⟨by rw [List.length_set]; exact hlen, fun n hn => ?_, fun x hx g1 g2 => ?_, fun r hr g1 g2 => key r (h.c1 r hr g1 g2), fun m hm r hr g1 g2 => ?_⟩
  · rcases (get n).1 hn with rfl | hn
    · exact hR
    · exact h.s1 n hn
  · rcases hsub' _ hx with e | e
    · exact h.s2 x e g1 g2
    · exact .step t x hR e g1 g2
  · rcases (get m).1 hm with rfl | hm
    · exact .inr (hout _ hr)
    · exact key r (h.c2 m hm r hr g1 g2)
theorem Srch.done {N : Nat} {roots : List Int} {out : Nat → List Int} {inn : List Bool} (h : Srch N roots out inn []) (n : Nat) : inn[n]? = some true ↔ Rch N roots out n := by
  refine ⟨h.s1 n, fun hr => ?_⟩
  induction hr with
  | root n hm h1 h2 => rcases h.c1 n hm h1 h2 with q | q; exact q; simp at q
  | step m n hm hn h1 h2 ih => rcases h.c2 m ih n hn h1 h2 with q | q; exact q; simp at q
/-- How much is still to come. -/
def wtF (out : Nat → List Int) : Nat → List Bool → Nat
  | _, [] => 0
  | k, b :: l => (if b then 0 else 1 + (out k).length) + wtF out (k + 1) l
theorem wtF_set (out : Nat → List Int) : ∀ (l : List Bool) (k i : Nat), l[i]? = some false → wtF out k (l.set i true) + (1 + (out (k + i)).length) = wtF out k l
  | [], _, _, h => by simp at h
  | b :: l, k, 0, h => by simp at h; subst h; simp [wtF]; omega
  | b :: l, k, i + 1, h => by
    have := wtF_set out l (k + 1) i (by simpa using h)
    simp only [List.set_cons_succ, wtF]
    rw [show k + (i + 1) = k + 1 + i by omega]; omega
theorem wtF_start (out : Nat → List Int) : ∀ (n k : Nat) , wtF out k (List.replicate n false) = n + ((List.range n).map (fun i => (out (k + i)).length)).sum
  | 0, _ => rfl
  | n + 1, k => by
    simp only [List.replicate_succ, wtF, wtF_start out n (k + 1), List.range_succ_eq_map, List.map_cons, List.sum_cons, List.map_map]
    have : ((fun i => (out (k + i)).length) ∘ Nat.succ) = (fun i => (out (k + 1 + i)).length) := by funext i; simp [Nat.succ_eq_add_one]; congr 2; omega
    rw [this]; simp; omega
open Classical in
noncomputable def rchL (N : Nat) (roots : List Int) (out : Nat → List Int) : List Int := ((List.range (N + 1)).filter (fun n => decide (Rch N roots out n))).map Int.ofNat
theorem rchL_of {N : Nat} {roots : List Int} {out : Nat → List Int} {inn : List Bool} (h : ∀ n, inn[n]? = some true ↔ Rch N roots out n) : ((List.range (N + 1)).filter (fun n => inn[n]? == some true)).map Int.ofNat = rchL N roots out := by
  unfold rchL
  congr 1
  apply List.filter_congr
  intro n _
  by_cases q : Rch N roots out n
  · simp [(h n).2 q, q]
  · have : inn[n]? ≠ some true := fun e => q ((h n).1 e)
    simp [this, q]
theorem rchL_length (N : Nat) (roots : List Int) (out : Nat → List Int) : (rchL N roots out).length ≤ N + 1 := by
  unfold rchL
  rw [List.length_map]
  exact Nat.le_trans (List.length_filter_le _ _) (by simp)
/-- What an object names. -/
def refsOf (x : ObjL) : List Int := (x.vals.filter (fun v => v.kind == 4)).map ValL.n
def refsT (vs : List ValL) : List Int := (vs.filter (fun v => v.kind == 4)).map ValL.n
def outOf (objs : List ObjL) (m : Nat) : List Int := if h : 1 ≤ m ∧ m ≤ objs.length then refsT (objs[m - 1]'(by omega)).vals else []
theorem outOf_eq {objs : List ObjL} {m : Nat} (h1 : 1 ≤ m) (h2 : m ≤ objs.length) : outOf objs m = refsT (objs[m - 1]'(by omega)).vals := by
  unfold outOf; rw [dif_pos ⟨h1, h2⟩]
theorem refsT_length (vs : List ValL) : (refsT vs).length ≤ vs.length := by
  unfold refsT; rw [List.length_map]; exact List.length_filter_le _ _
theorem outOf_sum (objs : List ObjL) : ((List.range (objs.length + 1)).map (fun i => (outOf objs (0 + i)).length)).sum ≤ (objs.map (fun x => x.vals.length)).sum := by
  have h0 : (outOf objs 0).length = 0 := by unfold outOf; simp
  have key : ∀ (l : List ObjL) (k : Nat), (∀ i (h : i < l.length), (outOf objs (k + i)).length ≤ l[i].vals.length) → ((List.range l.length).map (fun i => (outOf objs (k + i)).length)).sum ≤ (l.map (fun x => x.vals.length)).sum := by
    intro l
    induction l with
    | nil => intro k _; simp
    | cons x l ih =>
      intro k hk
      have h1 := ih (k + 1) (fun i hi => by
        have := hk (i + 1) (by simpa using hi)
        rw [show k + 1 + i = k + (i + 1) by omega]; simpa using this)
      have h2 := hk 0 (by simp)
      simp only [List.length_cons, List.range_succ_eq_map, List.map_cons, List.sum_cons, List.map_map]
      have : ((fun i => (outOf objs (k + i)).length) ∘ Nat.succ) = (fun i => (outOf objs (k + 1 + i)).length) := by funext i; simp [Nat.succ_eq_add_one]; congr 2; omega
      rw [this]
      simp only [Nat.add_zero, List.getElem_cons_zero] at h2 ⊢
      omega
  simp only [List.range_succ_eq_map, List.map_cons, List.sum_cons, List.map_map, h0, Nat.zero_add]
  have := key objs 1 (fun i hi => by
    rw [outOf_eq (by omega) (by omega)]
    have := refsT_length (objs[1 + i - 1]'(by omega)).vals
    have e : 1 + i - 1 = i := by omega
    simp only [e] at this ⊢; exact this)
  have e2 : ((fun i => (outOf objs i).length) ∘ Nat.succ) = (fun i => (outOf objs (1 + i)).length) := by funext i; simp [Nat.succ_eq_add_one]; congr 2; omega
  rw [e2]; exact this
end Go.Proofs.Ytkpeimklcoggkaa
