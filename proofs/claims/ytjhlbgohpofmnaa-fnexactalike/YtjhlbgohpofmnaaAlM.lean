/- Alike: the plain mathematics. -/
import Derived.Test.YtjhlbgohpofmnaaObA
namespace Go.Proofs.Ytjhlbgohpofmnaa
set_option linter.unusedVariables false
open Go.ChangeShapes Go.WideShapes Go.ChangeAt Go.RowKit

/-! ### Alike: the plain mathematics -/
def cmpV (v w : ValL) : Bool := v.kind == w.kind && (v.kind == 4 || v.n == w.n)
def cmpO (o u : ObjL) : Bool := decide (o.ty = u.ty) && (decide (o.text = u.text) && (decide (o.vals.length = u.vals.length) && (o.vals.zip u.vals).all (fun q => cmpV q.1 q.2)))
def kidsL (l : List (ValL × ValL)) : List (Int × Int) := (l.filter (fun q => q.1.kind == 4)).map (fun q => (q.1.n, q.2.n))
def kids (o u : ObjL) : List (Int × Int) := kidsL (o.vals.zip u.vals)
inductive PR (a b : List ObjL) (x y : Int) : Int → Int → Prop
  | base : PR a b x y x y
  | step (p q : Nat) (o u : ObjL) (v w : Int) (h : PR a b x y ((p : Int) + 1) ((q : Int) + 1)) (ho : a[p]? = some o) (hu : b[q]? = some u) (hk : (v, w) ∈ kids o u) : PR a b x y v w
def goodP (a b : List ObjL) (p q : Int) : Prop := (p = 0 ∧ q = 0) ∨ ∃ (m n : Nat) (o u : ObjL), p = (m : Int) + 1 ∧ q = (n : Int) + 1 ∧ a[m]? = some o ∧ b[n]? = some u ∧ cmpO o u = true
def AlikeP (a b : List ObjL) (x y : Int) : Prop := (∀ p q, PR a b x y p q → goodP a b p q) ∧ (∀ p q q', PR a b x y p q → PR a b x y p q' → p ≠ 0 → q = q') ∧ (∀ p p' q, PR a b x y p q → PR a b x y p' q → q ≠ 0 → p = p')
open Classical in
noncomputable def alikeB (a b : List ObjL) (x y : Int) : Bool := decide (AlikeP a b x y)
/-- A pair that is held, or to be held, against each other. -/
def inSet (there : List Int) (todo : List (Int × Int)) (p q : Int) : Prop := (p = 0 ∧ q = 0) ∨ (p, q) ∈ todo ∨ ∃ m n : Nat, p = (m : Int) + 1 ∧ q = (n : Int) + 1 ∧ there[m + 1]? = some ((n : Int) + 1)
structure AlS (a b : List ObjL) (x y : Int) (there back : List Int) (todo : List (Int × Int)) : Prop where
  lt : there.length = a.length + 1
  lb : back.length = b.length + 1
  sym : ∀ m n : Nat, there[m + 1]? = some ((n : Int) + 1) ↔ back[n + 1]? = some ((m : Int) + 1)
  rt : ∀ j z, there[j]? = some z → z = 0 ∨ ∃ m n : Nat, j = m + 1 ∧ z = (n : Int) + 1
  rb : ∀ j z, back[j]? = some z → z = 0 ∨ ∃ m n : Nat, j = n + 1 ∧ z = (m : Int) + 1
  s : ∀ m n : Nat, there[m + 1]? = some ((n : Int) + 1) → PR a b x y ((m : Int) + 1) ((n : Int) + 1) ∧ ∃ o u, a[m]? = some o ∧ b[n]? = some u ∧ cmpO o u = true
  td : ∀ p q, (p, q) ∈ todo → PR a b x y p q
  c0 : inSet there todo x y
  c1 : ∀ (m n : Nat) (o u : ObjL), there[m + 1]? = some ((n : Int) + 1) → a[m]? = some o → b[n]? = some u → ∀ v w, (v, w) ∈ kids o u → inSet there todo v w
theorem AlS.start (a b : List ObjL) (x y : Int) : AlS a b x y (List.replicate (a.length + 1) 0) (List.replicate (b.length + 1) 0) [(x, y)] := by
  have h0 : ∀ (n : Nat) (j : Nat) (z : Int), (List.replicate n (0 : Int))[j]? = some z → z = 0 := fun n j z h => by
    rw [List.getElem?_replicate] at h
    split at h <;> simp at h
    exact h.symm
  refine ⟨by simp, by simp, fun m n => ⟨fun h => ?_, fun h => ?_⟩, fun j z h => .inl (h0 _ _ _ h), fun j z h => .inl (h0 _ _ _ h), fun m n h => ?_, fun p q h => ?_, .inr (.inl (by simp)), fun m n o u h => ?_⟩
  · have := h0 _ _ _ h; omega
  · have := h0 _ _ _ h; omega
  · have := h0 _ _ _ h; omega
  · simp at h; obtain ⟨rfl, rfl⟩ := h; exact .base
  · have := h0 _ _ _ h; omega
theorem AlS.done {a b : List ObjL} {x y : Int} {there back : List Int} (h : AlS a b x y there back []) : AlikeP a b x y := by
  have key : ∀ p q, PR a b x y p q → inSet there [] p q := fun p q hp => by
    induction hp with
    | base => exact h.c0
    | step p q o u v w hp ho hu hk ih =>
      rcases ih with ⟨e, _⟩ | e | ⟨m, n, e1, e2, e3⟩
      · omega
      · simp at e
      · have em : p = m := by omega
        have en : q = n := by omega
        subst em en
        exact h.c1 p q o u e3 ho hu v w hk
  refine ⟨fun p q hp => ?_, fun p q q' h1 h2 hp => ?_, fun p p' q h1 h2 hq => ?_⟩
  · rcases key p q hp with e | e | ⟨m, n, e1, e2, e3⟩
    · exact .inl e
    · simp at e
    · obtain ⟨_, o, u, ho, hu, hc⟩ := h.s m n e3
      exact .inr ⟨m, n, o, u, e1, e2, ho, hu, hc⟩
  · rcases key _ _ h1 with e | e | ⟨m, n, e1, e2, e3⟩
    · omega
    · simp at e
    · rcases key _ _ h2 with f | f | ⟨m', n', f1, f2, f3⟩
      · omega
      · simp at f
      · have em : m = m' := by omega
        subst em
        rw [e3] at f3
        have : (n : Int) + 1 = (n' : Int) + 1 := by injection f3
        omega
  · rcases key _ _ h1 with e | e | ⟨m, n, e1, e2, e3⟩
    · omega
    · simp at e
    · rcases key _ _ h2 with f | f | ⟨m', n', f1, f2, f3⟩
      · omega
      · simp at f
      · have en : n = n' := by omega
        subst en
        have g1 := (h.sym m n).1 e3
        have g2 := (h.sym m' n).1 f3
        rw [g1] at g2
        have : (m : Int) + 1 = (m' : Int) + 1 := by injection g2
        omega
/-- A pair that can not be: no. -/
theorem AlS.bad {a b : List ObjL} {x y : Int} {there back : List Int} {todo : List (Int × Int)} {p q : Int} (h : AlS a b x y there back todo) (hin : (p, q) ∈ todo) (hb : ¬ goodP a b p q) : ¬ AlikeP a b x y := fun ha => hb (ha.1 p q (h.td p q hin))
theorem AlS.clash {a b : List ObjL} {x y : Int} {there back : List Int} {todo : List (Int × Int)} {p q z : Int} {j : Nat} (h : AlS a b x y there back todo) (hin : (p, q) ∈ todo) (hj : p = (j : Int)) (ht : there[j]? = some z) (hz : z ≠ 0) (hne : z ≠ q) : ¬ AlikeP a b x y := fun ha => by
  rcases h.rt j z ht with e | ⟨m, n, e1, e2⟩
  · exact hz e
  · subst e1 e2
    have := ha.2.1 p ((n : Int) + 1) q (by rw [hj]; simpa using (h.s m n ht).1) (h.td p q hin) (by omega)
    exact hne this
theorem AlS.clash2 {a b : List ObjL} {x y : Int} {there back : List Int} {todo : List (Int × Int)} {p q z : Int} {j : Nat} (h : AlS a b x y there back todo) (hin : (p, q) ∈ todo) (hj : q = (j : Int)) (ht : back[j]? = some z) (hz : z ≠ 0) (hne : z ≠ p) : ¬ AlikeP a b x y := fun ha => by
  rcases h.rb j z ht with e | ⟨m, n, e1, e2⟩
  · exact hz e
  · subst e1 e2
    have hs := (h.sym m n).2 ht
    have := ha.2.2 ((m : Int) + 1) p q (by rw [hj]; simpa using (h.s m n hs).1) (h.td p q hin) (by omega)
    exact hne this
theorem AlS.skip {a b : List ObjL} {x y : Int} {there back : List Int} {todo todo' : List (Int × Int)} {p q : Int} (h : AlS a b x y there back todo) (h1 : ∀ e, e ∈ todo → e = (p, q) ∨ e ∈ todo') (h2 : ∀ e, e ∈ todo' → e ∈ todo) (hs : (p = 0 ∧ q = 0) ∨ ∃ m n : Nat, p = (m : Int) + 1 ∧ q = (n : Int) + 1 ∧ there[m + 1]? = some ((n : Int) + 1)) : AlS a b x y there back todo' := by
  have key : ∀ v w, inSet there todo v w → inSet there todo' v w := fun v w hv => by
    rcases hv with e | e | e
    · exact .inl e
    · rcases h1 _ e with g | g
      · injection g with g1 g2
        subst g1 g2
        rcases hs with s | s
        · exact .inl s
        · exact .inr (.inr s)
      · exact .inr (.inl g)
    · exact .inr (.inr e)
  exact ⟨h.lt, h.lb, h.sym, h.rt, h.rb, h.s, fun p q hm => h.td p q (h2 _ hm), key _ _ h.c0, fun m n o u a1 a2 a3 v w hk => key _ _ (h.c1 m n o u a1 a2 a3 v w hk)⟩
theorem AlS.mark {a b : List ObjL} {x y : Int} {there back : List Int} {todo todo' : List (Int × Int)} {m n : Nat} {o u : ObjL} (h : AlS a b x y there back todo) (hin : ((m : Int) + 1, (n : Int) + 1) ∈ todo) (h1 : ∀ e, e ∈ todo → e = ((m : Int) + 1, (n : Int) + 1) ∨ e ∈ todo') (h2 : ∀ e, e ∈ todo' → e ∈ todo ∨ e ∈ kids o u) (h3 : ∀ e, e ∈ kids o u → e ∈ todo') (ho : a[m]? = some o) (hu : b[n]? = some u) (hc : cmpO o u = true) (ht : there[m + 1]? = some 0) (hb : back[n + 1]? = some 0) : AlS a b x y (there.set (m + 1) ((n : Int) + 1)) (back.set (n + 1) ((m : Int) + 1)) todo' := by
  have lt := (List.getElem?_eq_some_iff.1 ht).1
  have lb := (List.getElem?_eq_some_iff.1 hb).1
  have gt : ∀ (j : Nat) (z : Int), (there.set (m + 1) ((n : Int) + 1))[j]? = some z ↔ (j = m + 1 ∧ z = (n : Int) + 1) ∨ (j ≠ m + 1 ∧ there[j]? = some z) := fun j z => by
    rw [List.getElem?_set]
    by_cases e : m + 1 = j
    · subst e; simp [lt, eq_comm]
    · have e' : ¬ j = m + 1 := fun q => e q.symm
      simp [e, e']
  have gb : ∀ (j : Nat) (z : Int), (back.set (n + 1) ((m : Int) + 1))[j]? = some z ↔ (j = n + 1 ∧ z = (m : Int) + 1) ∨ (j ≠ n + 1 ∧ back[j]? = some z) := fun j z => by
    rw [List.getElem?_set]
    by_cases e : n + 1 = j
    · subst e; simp [lb, eq_comm]
    · have e' : ¬ j = n + 1 := fun q => e q.symm
      simp [e, e']
  have hPR := h.td _ _ hin
  have key : ∀ v w, inSet there todo v w → inSet (there.set (m + 1) ((n : Int) + 1)) todo' v w := fun v w hv => by
    rcases hv with e | e | ⟨m', n', e1, e2, e3⟩
    · exact .inl e
    · rcases h1 _ e with g | g
      · injection g with g1 g2
        exact .inr (.inr ⟨m, n, g1, g2, (gt _ _).2 (.inl ⟨rfl, rfl⟩)⟩)
      · exact .inr (.inl g)
    · refine .inr (.inr ⟨m', n', e1, e2, (gt _ _).2 (.inr ⟨fun e => ?_, e3⟩)⟩)
      rw [e, ht] at e3
      have : (0 : Int) = (n' : Int) + 1 := by injection e3
      omega
  refine ⟨by rw [List.length_set]; exact h.lt, by rw [List.length_set]; exact h.lb, fun m' n' => ?_, fun j z hj => ?_, fun j z hj => ?_, fun m' n' hm => ?_, fun p q hm => ?_, key _ _ h.c0, fun m' n' o' u' hm ho' hu' v w hk => ?_⟩
  · rw [gt, gb]
    constructor
    · rintro (⟨e1, e2⟩ | ⟨e1, e2⟩)
      · exact .inl ⟨by omega, by omega⟩
      · refine .inr ⟨fun e => ?_, (h.sym m' n').1 e2⟩
        have := (h.sym m' n').1 e2
        rw [e, hb] at this
        have : (0 : Int) = (m' : Int) + 1 := by injection this
        omega
    · rintro (⟨e1, e2⟩ | ⟨e1, e2⟩)
      · exact .inl ⟨by omega, by omega⟩
      · refine .inr ⟨fun e => ?_, (h.sym m' n').2 e2⟩
        have := (h.sym m' n').2 e2
        rw [e, ht] at this
        have : (0 : Int) = (n' : Int) + 1 := by injection this
        omega
  · rcases (gt j z).1 hj with ⟨e1, e2⟩ | ⟨_, e2⟩
    · exact .inr ⟨m, n, e1, e2⟩
    · exact h.rt j z e2
  · rcases (gb j z).1 hj with ⟨e1, e2⟩ | ⟨_, e2⟩
    · exact .inr ⟨m, n, e1, e2⟩
    · exact h.rb j z e2
  · rcases (gt _ _).1 hm with ⟨e1, e2⟩ | ⟨_, e2⟩
    · have em : m' = m := by omega
      have en : n' = n := by omega
      subst em en
      exact ⟨hPR, o, u, ho, hu, hc⟩
    · exact h.s m' n' e2
  · rcases h2 _ hm with e | e
    · exact h.td p q e
    · exact .step m n o u p q hPR ho hu e
  · rcases (gt _ _).1 hm with ⟨e1, e2⟩ | ⟨_, e2⟩
    · have em : m' = m := by omega
      have en : n' = n := by omega
      subst em en
      rw [ho] at ho'
      rw [hu] at hu'
      injection ho' with ho'
      injection hu' with hu'
      subst ho' hu'
      exact .inr (.inl (h3 _ hk))
    · exact key _ _ (h.c1 m' n' o' u' e2 ho' hu' v w hk)
def wtZ (f : Nat → Nat) : Nat → List Int → Nat
  | _, [] => 0
  | k, z :: l => (if z = 0 then 1 + f k else 0) + wtZ f (k + 1) l
theorem wtZ_set (f : Nat → Nat) (v : Int) (hv : v ≠ 0) : ∀ (l : List Int) (k i : Nat), l[i]? = some 0 → wtZ f k (l.set i v) + (1 + f (k + i)) = wtZ f k l
  | [], _, _, h => by simp at h
  | z :: l, k, 0, h => by simp at h; subst h; simp [wtZ, hv]; omega
  | z :: l, k, i + 1, h => by
    have := wtZ_set f v hv l (k + 1) i (by simpa using h)
    simp only [List.set_cons_succ, wtZ]
    rw [show k + (i + 1) = k + 1 + i by omega]; omega
theorem wtZ_start (f : Nat → Nat) : ∀ (n k : Nat), wtZ f k (List.replicate n 0) = n + ((List.range n).map (fun i => f (k + i))).sum
  | 0, _ => rfl
  | n + 1, k => by
    simp only [List.replicate_succ, wtZ, wtZ_start f n (k + 1), List.range_succ_eq_map, List.map_cons, List.sum_cons, List.map_map]
    have : ((fun i => f (k + i)) ∘ Nat.succ) = (fun i => f (k + 1 + i)) := by funext i; simp [Nat.succ_eq_add_one]; congr 1; omega
    rw [this]; simp; omega
def lenAt (a : List ObjL) (m : Nat) : Nat := match m with
  | 0 => 0
  | m + 1 => match a[m]? with
    | some o => o.vals.length
    | none => 0
theorem lenAt_sum (a : List ObjL) : ((List.range (a.length + 1)).map (fun i => lenAt a (0 + i))).sum = (a.map (fun x => x.vals.length)).sum := by
  rw [List.range_succ_eq_map]
  simp only [List.map_cons, List.sum_cons, List.map_map, Nat.zero_add]
  have e : (fun i => lenAt a i) ∘ Nat.succ = fun i => (match a[i]? with | some o => o.vals.length | none => 0) := by funext i; rfl
  have h0 : lenAt a 0 = 0 := rfl
  rw [e, h0, Nat.zero_add]
  congr 1
  apply List.ext_getElem (by simp)
  intro i h1 h2
  simp at h1
  simp [h1]
theorem kidsL_length (l : List (ValL × ValL)) : (kidsL l).length ≤ l.length := by
  unfold kidsL; rw [List.length_map]; exact List.length_filter_le _ _
end Go.Proofs.Ytjhlbgohpofmnaa
