/- Pairs that are met, one behind the other: the plain mathematics. -/
import Derived.Test.YtjhlbgohpofmnaaAlM
namespace Go.Proofs.Ytjhlbgohpofmnaa
set_option linter.unusedVariables false

def fsts (row : List (Int × Int)) : List Int := row.map Prod.fst
def snds (row : List (Int × Int)) : List Int := row.map Prod.snd
def partner (row : List (Int × Int)) (p : Int) : Int := ((row.find? (fun e => e.1 == p)).map Prod.snd).getD 0
/-- Two numbers meet: no where they can't be alike, else the row, perhaps with the pair at its end. -/
def meetP (A B : Nat) (row : List (Int × Int)) (p q : Int) : Option (List (Int × Int)) :=
  if 0 ≤ p ∧ p ≤ A ∧ 0 ≤ q ∧ q ≤ B then
    if p = 0 ∨ q = 0 then (if p = q then some row else none)
    else if p ∈ fsts row ∨ q ∈ snds row then (if partner row p = q then some row else none)
    else some (row ++ [(p, q)])
  else none
structure PrS (a b : List ObjL) (x y : Int) (row : List (Int × Int)) : Prop where
  pr : ∀ e ∈ row, PR a b x y e.1 e.2
  rg : ∀ e ∈ row, ∃ m n : Nat, e = ((m : Int) + 1, (n : Int) + 1) ∧ m < a.length ∧ n < b.length
  n1 : (fsts row).Nodup
  n2 : (snds row).Nodup
def okE (row : List (Int × Int)) (p q : Int) : Prop := (p = 0 ∧ q = 0) ∨ (p, q) ∈ row
theorem partner_mem {row : List (Int × Int)} (h : (fsts row).Nodup) {p q : Int} (hm : (p, q) ∈ row) : partner row p = q := by
  induction row with
  | nil => simp at hm
  | cons e l ih =>
    simp only [fsts, List.map_cons, List.nodup_cons] at h
    unfold partner
    by_cases he : e.1 = p
    · rw [List.find?_cons_of_pos (by simpa using he)]
      rcases List.mem_cons.1 hm with q' | q'
      · subst q'; rfl
      · exact absurd (List.mem_map.2 ⟨_, q', rfl⟩) (by rw [← he] at *; exact h.1)
    · rw [List.find?_cons_of_neg (by simpa using he)]
      rcases List.mem_cons.1 hm with q' | q'
      · subst q'; exact absurd rfl he
      · exact ih h.2 q'
theorem partner_of {row : List (Int × Int)} {p : Int} (h : p ∈ fsts row) : (p, partner row p) ∈ row := by
  unfold partner
  cases hf : row.find? (fun e => e.1 == p) with
  | none =>
    obtain ⟨e, he, rfl⟩ := List.mem_map.1 h
    have := List.find?_eq_none.1 hf e he
    simp at this
  | some e =>
    have h1 := List.mem_of_find?_eq_some hf
    have h2 := List.find?_some hf
    have h2 : e.1 = p := by simpa using h2
    simp only [Option.map_some, Option.getD_some]
    rw [← h2]; exact h1
theorem partner_none {row : List (Int × Int)} {p : Int} (h : p ∉ fsts row) : partner row p = 0 := by
  unfold partner
  rw [List.find?_eq_none.2 (fun e he => by
    intro q
    have q : e.1 = p := by simpa using q
    exact h (List.mem_map.2 ⟨e, he, q⟩))]
  rfl
theorem partner_snoc {row : List (Int × Int)} {p q z : Int} (h : p ∉ fsts row) : partner (row ++ [(p, q)]) z = if z = p then q else partner row z := by
  by_cases e : z = p
  · subst e
    rw [if_pos rfl]
    unfold partner
    rw [List.find?_append, List.find?_eq_none.2 (fun e he => by
      intro q
      have q : e.1 = z := by simpa using q
      exact h (List.mem_map.2 ⟨e, he, q⟩))]
    simp
  · rw [if_neg e]
    unfold partner
    rw [List.find?_append]
    have e' : ¬ p = z := fun q => e q.symm
    simp [e']
theorem snd_inj {row : List (Int × Int)} (h : (snds row).Nodup) {p p' q : Int} (h1 : (p, q) ∈ row) (h2 : (p', q) ∈ row) : p = p' := by
  induction row with
  | nil => simp at h1
  | cons e l ih =>
    simp only [snds, List.map_cons, List.nodup_cons] at h
    rcases List.mem_cons.1 h1 with a1 | a1 <;> rcases List.mem_cons.1 h2 with a2 | a2
    · rw [← a1] at a2; injection a2 with a2; exact a2.symm
    · subst a1; exact absurd (List.mem_map.2 ⟨_, a2, rfl⟩) h.1
    · subst a2; exact absurd (List.mem_map.2 ⟨_, a1, rfl⟩) h.1
    · exact ih h.2 a1 a2
theorem PrS.zero {a b : List ObjL} {x y : Int} {row : List (Int × Int)} (h : PrS a b x y row) {p q : Int} (hm : (p, q) ∈ row) : p ≠ 0 ∧ q ≠ 0 := by
  obtain ⟨m, n, e, _⟩ := h.rg _ hm
  injection e with e1 e2
  omega
theorem PrS.start (a b : List ObjL) (x y : Int) : PrS a b x y [] := ⟨by simp, by simp, by simp [fsts], by simp [snds]⟩
/-- What meets stays in order. -/
theorem PrS.meet {a b : List ObjL} {x y : Int} {row row' : List (Int × Int)} {p q : Int} (h : PrS a b x y row) (hp : PR a b x y p q) (hm : meetP a.length b.length row p q = some row') : PrS a b x y row' ∧ (∃ t, row' = row ++ t) ∧ okE row' p q := by
  unfold meetP at hm
  split at hm
  · rename_i hr
    split at hm
    · rename_i h0
      split at hm
      · rename_i he
        injection hm with hm
        subst hm
        exact ⟨h, ⟨[], by simp⟩, .inl ⟨by omega, by omega⟩⟩
      · cases hm
    · rename_i h0
      split at hm
      · rename_i hin
        split at hm
        · rename_i he
          injection hm with hm
          subst hm
          refine ⟨h, ⟨[], by simp⟩, .inr ?_⟩
          by_cases hf : p ∈ fsts row
          · have := partner_of hf
            rw [he] at this; exact this
          · rw [partner_none hf] at he; omega
        · cases hm
      · rename_i hin
        injection hm with hm
        subst hm
        have hi1 : p ∉ fsts row := fun q => hin (.inl q)
        have hi2 : q ∉ snds row := fun q => hin (.inr q)
        refine ⟨⟨fun e he => ?_, fun e he => ?_, ?_, ?_⟩, ⟨_, rfl⟩, .inr (by simp)⟩
        · rcases List.mem_append.1 he with he | he
          · exact h.pr e he
          · simp at he; subst he; exact hp
        · rcases List.mem_append.1 he with he | he
          · exact h.rg e he
          · simp at he; subst he
            refine ⟨(p - 1).toNat, (q - 1).toNat, ?_, by omega, by omega⟩
            congr 1 <;> omega
        · simp only [fsts, List.map_append, List.map_cons, List.map_nil]
          rw [List.nodup_append]
          refine ⟨h.n1, by simp, fun a ha b hb e => ?_⟩
          simp at hb; subst hb; subst e; exact hi1 ha
        · simp only [snds, List.map_append, List.map_cons, List.map_nil]
          rw [List.nodup_append]
          refine ⟨h.n2, by simp, fun a ha b hb e => ?_⟩
          simp at hb; subst hb; subst e; exact hi2 ha
  · cases hm
theorem PrS.no {a b : List ObjL} {x y : Int} {row : List (Int × Int)} {p q : Int} (h : PrS a b x y row) (hp : PR a b x y p q) (hm : meetP a.length b.length row p q = none) : ¬ AlikeP a b x y := fun ha => by
  obtain ⟨g1, g2, g3⟩ := ha
  have hg := g1 p q hp
  unfold meetP at hm
  rcases hg with ⟨rfl, rfl⟩ | ⟨m, n, o, u, rfl, rfl, ho, hu, hc⟩
  · simp at hm
  · have hm' := (List.getElem?_eq_some_iff.1 ho).1
    have hn' := (List.getElem?_eq_some_iff.1 hu).1
    rw [if_pos ⟨by omega, by omega, by omega, by omega⟩, if_neg (by omega)] at hm
    split at hm
    · rename_i hin
      split at hm
      · cases hm
      · rename_i hne
        rcases hin with hin | hin
        · have h1 := partner_of hin
          have h2 := h.pr _ h1
          exact hne (g2 _ _ _ h2 hp (by omega))
        · obtain ⟨e, he, hes⟩ := List.mem_map.1 hin
          have h2 := h.pr _ he
          have : e.1 = (m : Int) + 1 := g3 e.1 ((m : Int) + 1) ((n : Int) + 1) (by rw [← hes]; exact h2) hp (by omega)
          have he2 : ((m : Int) + 1, (n : Int) + 1) ∈ row := by rw [← this, ← hes]; exact he
          exact hne (partner_mem h.n1 he2)
    · cases hm
theorem len_le : ∀ (N : Nat) (row : List Int), row.Nodup → (∀ x ∈ row, 1 ≤ x ∧ x ≤ (N : Int)) → row.length ≤ N := by
  intro N
  induction N with
  | zero =>
    intro row _ h
    cases row with
    | nil => simp
    | cons x l => have := h x (by simp); omega
  | succ N ih =>
    intro row hn h
    by_cases hm : ((N : Int) + 1) ∈ row
    · have h1 := ih (row.erase ((N : Int) + 1)) (hn.erase _) (fun x hx => by
        have := (hn.mem_erase_iff).1 hx
        have := h x this.2
        omega)
      rw [List.length_erase_of_mem hm] at h1
      omega
    · have h1 := ih row hn (fun x hx => by
        have h2 := h x hx
        have : x ≠ (N : Int) + 1 := fun e => hm (by rw [← e]; exact hx)
        omega)
      omega
theorem PrS.len {a b : List ObjL} {x y : Int} {row : List (Int × Int)} (h : PrS a b x y row) : row.length ≤ a.length := by
  have := len_le a.length (fsts row) h.n1 (fun z hz => by
    obtain ⟨e, he, rfl⟩ := List.mem_map.1 hz
    obtain ⟨m, n, rfl, h1, h2⟩ := h.rg e he
    exact ⟨by show 1 ≤ (m : Int) + 1; omega, by show (m : Int) + 1 ≤ _; omega⟩)
  simpa [fsts] using this
/-- Two values: two that refer meet, others are the same. -/
def stepV (A B : Nat) (row : List (Int × Int)) (e : ValL × ValL) : Option (List (Int × Int)) :=
  if e.1.kind = 4 ∧ e.2.kind = 4 then meetP A B row e.1.n e.2.n else if e.1.kind = e.2.kind ∧ e.1.n = e.2.n then some row else none
def valsP (A B : Nat) : List (Int × Int) → List (ValL × ValL) → Option (List (Int × Int))
  | row, [] => some row
  | row, e :: l => match stepV A B row e with
    | some row' => valsP A B row' l
    | none => none
theorem valsP_snoc (A B : Nat) (e : ValL × ValL) : ∀ (l : List (ValL × ValL)) (row : List (Int × Int)), valsP A B row (l ++ [e]) = match valsP A B row l with
    | some row' => stepV A B row' e
    | none => none
  | [], row => by
    simp only [List.nil_append, valsP]
    cases stepV A B row e <;> rfl
  | f :: l, row => by
    simp only [List.cons_append, valsP]
    cases h : stepV A B row f with
    | none => rfl
    | some r => exact valsP_snoc A B e l r
theorem PrS.vals {a b : List ObjL} {x y : Int} {m n : Nat} {o u : ObjL} (hp : PR a b x y ((m : Int) + 1) ((n : Int) + 1)) (ho : a[m]? = some o) (hu : b[n]? = some u) : ∀ (l : List (ValL × ValL)) (row row' : List (Int × Int)), (∀ e ∈ l, e.1.kind = 4 → (e.1.n, e.2.n) ∈ kids o u) → PrS a b x y row → valsP a.length b.length row l = some row' →
    PrS a b x y row' ∧ (∃ t, row' = row ++ t) ∧ (∀ e ∈ l, cmpV e.1 e.2 = true) ∧ (∀ e ∈ kidsL l, okE row' e.1 e.2) := by
  intro l
  induction l with
  | nil => intro row row' _ h hv; simp only [valsP, Option.some.injEq] at hv; subst hv; exact ⟨h, ⟨[], by simp⟩, by simp, by simp [kidsL]⟩
  | cons e l ih =>
    intro row row' hk h hv
    simp only [valsP] at hv
    cases hs : stepV a.length b.length row e with
    | none => rw [hs] at hv; cases hv
    | some r =>
      rw [hs] at hv
      simp only at hv
      unfold stepV at hs
      by_cases hkk : e.1.kind = 4 ∧ e.2.kind = 4
      · rw [if_pos hkk] at hs
        obtain ⟨g1, ⟨t, g2⟩, g3⟩ := h.meet (.step m n o u _ _ hp ho hu (hk e (by simp) hkk.1)) hs
        obtain ⟨f1, ⟨s, f2⟩, f3, f4⟩ := ih r row' (fun e he => hk e (by simp [he])) g1 hv
        refine ⟨f1, ⟨t ++ s, by rw [f2, g2, List.append_assoc]⟩, fun e' he' => ?_, fun e' he' => ?_⟩
        · rcases List.mem_cons.1 he' with rfl | he'
          · simp [cmpV, hkk.1, hkk.2]
          · exact f3 e' he'
        · have : kidsL (e :: l) = (e.1.n, e.2.n) :: kidsL l := by simp [kidsL, hkk.1]
          rw [this] at he'
          rcases List.mem_cons.1 he' with rfl | he'
          · rcases g3 with q | q
            · exact .inl q
            · exact .inr (by rw [f2]; exact List.mem_append_left _ q)
          · exact f4 e' he'
      · rw [if_neg hkk] at hs
        split at hs
        · rename_i heq
          injection hs with hs
          subst hs
          obtain ⟨f1, f2, f3, f4⟩ := ih row row' (fun e he => hk e (by simp [he])) h hv
          have hne : ¬ e.1.kind = 4 := fun q => hkk ⟨q, by rw [← heq.1]; exact q⟩
          refine ⟨f1, f2, fun e' he' => ?_, fun e' he' => ?_⟩
          · rcases List.mem_cons.1 he' with rfl | he'
            · simp [cmpV, heq.1, heq.2]
            · exact f3 e' he'
          · have : kidsL (e :: l) = kidsL l := by simp [kidsL, hne]
            rw [this] at he'
            exact f4 e' he'
        · cases hs
theorem PrS.valsNo {a b : List ObjL} {x y : Int} {m n : Nat} {o u : ObjL} (hp : PR a b x y ((m : Int) + 1) ((n : Int) + 1)) (ho : a[m]? = some o) (hu : b[n]? = some u) : ∀ (l : List (ValL × ValL)) (row : List (Int × Int)), (∀ e ∈ l, e.1.kind = 4 → (e.1.n, e.2.n) ∈ kids o u) → (∀ e ∈ l, e ∈ o.vals.zip u.vals) → PrS a b x y row → valsP a.length b.length row l = none → ¬ AlikeP a b x y := by
  intro l
  induction l with
  | nil => intro row _ _ h hv; simp [valsP] at hv
  | cons e l ih =>
    intro row hk hz h hv
    simp only [valsP] at hv
    cases hs : stepV a.length b.length row e with
    | some r =>
      rw [hs] at hv
      simp only at hv
      have hr : PrS a b x y r := by
        unfold stepV at hs
        split at hs
        · rename_i hkk
          exact (h.meet (.step m n o u _ _ hp ho hu (hk e (by simp) hkk.1)) hs).1
        · split at hs
          · injection hs with hs; subst hs; exact h
          · cases hs
      exact ih r (fun e he => hk e (by simp [he])) (fun e he => hz e (by simp [he])) hr hv
    | none =>
      unfold stepV at hs
      split at hs
      · rename_i hkk
        exact h.no (.step m n o u _ _ hp ho hu (hk e (by simp) hkk.1)) hs
      · rename_i hkk
        split at hs
        · cases hs
        · rename_i hne
          intro ha
          rcases ha.1 _ _ hp with ⟨q, _⟩ | ⟨m', n', o', u', e1, e2, ho', hu', hc⟩
          · omega
          · have em : m' = m := by omega
            have en : n' = n := by omega
            subst em en
            rw [ho] at ho'; rw [hu] at hu'
            injection ho' with ho'; injection hu' with hu'
            subst ho' hu'
            simp only [cmpO, Bool.and_eq_true, List.all_eq_true] at hc
            have := hc.2.2.2 e (hz e (by simp))
            simp only [cmpV, Bool.and_eq_true, beq_iff_eq, Bool.or_eq_true] at this
            rcases this with ⟨k1, k2 | k2⟩
            · exact hkk ⟨k2, by rw [← k1]; exact k2⟩
            · exact hne ⟨k1, k2⟩
/-- All pairs before k were looked at. -/
structure PrK (a b : List ObjL) (x y : Int) (row : List (Int × Int)) (k : Nat) : Prop extends PrS a b x y row where
  c0 : okE row x y
  c1 : ∀ j, j < k → ∀ (m n : Nat) (o u : ObjL), row[j]? = some ((m : Int) + 1, (n : Int) + 1) → a[m]? = some o → b[n]? = some u → cmpO o u = true ∧ ∀ e ∈ kids o u, okE row e.1 e.2
theorem okE.more {row t : List (Int × Int)} {p q : Int} (h : okE row p q) : okE (row ++ t) p q := by
  rcases h with h | h
  · exact .inl h
  · exact .inr (List.mem_append_left _ h)
theorem PrK.done {a b : List ObjL} {x y : Int} {row : List (Int × Int)} {k : Nat} (h : PrK a b x y row k) (hk : row.length ≤ k) : AlikeP a b x y := by
  have hc : ∀ (m n : Nat) (o u : ObjL), ((m : Int) + 1, (n : Int) + 1) ∈ row → a[m]? = some o → b[n]? = some u → cmpO o u = true ∧ ∀ e ∈ kids o u, okE row e.1 e.2 := fun m n o u hm ho hu => by
    obtain ⟨j, hj, e⟩ := List.mem_iff_getElem.1 hm
    exact h.c1 j (by omega) m n o u (by rw [List.getElem?_eq_getElem hj, e]) ho hu
  have key : ∀ p q, PR a b x y p q → okE row p q := fun p q hp => by
    induction hp with
    | base => exact h.c0
    | step p q o u v w hp ho hu hk ih =>
      rcases ih with ⟨e, _⟩ | e
      · omega
      · exact (hc p q o u e ho hu).2 (v, w) hk
  refine ⟨fun p q hp => ?_, fun p q q' h1 h2 hp => ?_, fun p p' q h1 h2 hq => ?_⟩
  · rcases key p q hp with e | e
    · exact .inl e
    · obtain ⟨m, n, e', hm, hn⟩ := h.rg _ e
      injection e' with e1 e2
      subst e1 e2
      exact .inr ⟨m, n, a[m], b[n], rfl, rfl, List.getElem?_eq_getElem hm, List.getElem?_eq_getElem hn, (hc m n _ _ e (List.getElem?_eq_getElem hm) (List.getElem?_eq_getElem hn)).1⟩
  · rcases key _ _ h1 with e | e
    · omega
    · rcases key _ _ h2 with f | f
      · omega
      · rw [← partner_mem h.n1 e, ← partner_mem h.n1 f]
  · rcases key _ _ h1 with e | e
    · omega
    · rcases key _ _ h2 with f | f
      · omega
      · exact snd_inj h.n2 e f
theorem PrK.start {a b : List ObjL} {x y : Int} {row : List (Int × Int)} (h : meetP a.length b.length [] x y = some row) : PrK a b x y row 0 := by
  obtain ⟨h1, _, h3⟩ := (PrS.start a b x y).meet .base h
  exact ⟨h1, h3, fun j hj => by omega⟩
theorem PrK.step {a b : List ObjL} {x y : Int} {row row' : List (Int × Int)} {k m n : Nat} {o u : ObjL} (h : PrK a b x y row k) (hk : row[k]? = some ((m : Int) + 1, (n : Int) + 1)) (ho : a[m]? = some o) (hu : b[n]? = some u) (h1 : o.ty = u.ty) (h2 : o.text = u.text) (h3 : o.vals.length = u.vals.length) (hv : valsP a.length b.length row (o.vals.zip u.vals) = some row') : PrK a b x y row' (k + 1) := by
  have hmem : ((m : Int) + 1, (n : Int) + 1) ∈ row := List.mem_of_getElem? hk
  have hkl : k < row.length := (List.getElem?_eq_some_iff.1 hk).1
  obtain ⟨f1, ⟨t, rfl⟩, f3, f4⟩ := PrS.vals (h.pr _ hmem) ho hu (o.vals.zip u.vals) row row' (fun e he hk4 => by
    unfold kids kidsL
    exact List.mem_map.2 ⟨e, List.mem_filter.2 ⟨he, by simpa using hk4⟩, rfl⟩) h.toPrS hv
  refine ⟨f1, h.c0.more, fun j hj m' n' o' u' hj' ho' hu' => ?_⟩
  have hjl : j < row.length := by omega
  rw [List.getElem?_append_left hjl] at hj'
  by_cases e : j = k
  · subst e
    rw [hk] at hj'
    injection hj' with hj'
    injection hj' with e1 e2
    have em : m' = m := by omega
    have en : n' = n := by omega
    subst em en
    rw [ho] at ho'; rw [hu] at hu'
    injection ho' with ho'; injection hu' with hu'
    subst ho' hu'
    refine ⟨?_, f4⟩
    simp only [cmpO, h1, h2, h3, decide_true, Bool.true_and, List.all_eq_true]
    exact f3
  · obtain ⟨g1, g2⟩ := h.c1 j (by omega) m' n' o' u' hj' ho' hu'
    exact ⟨g1, fun e he => (g2 e he).more⟩
theorem PrK.noObj {a b : List ObjL} {x y : Int} {row : List (Int × Int)} {k m n : Nat} {o u : ObjL} (h : PrK a b x y row k) (hk : row[k]? = some ((m : Int) + 1, (n : Int) + 1)) (ho : a[m]? = some o) (hu : b[n]? = some u) (hne : cmpO o u = false) : ¬ AlikeP a b x y := fun ha => by
  rcases ha.1 _ _ (h.pr _ (List.mem_of_getElem? hk)) with ⟨q, _⟩ | ⟨m', n', o', u', e1, e2, ho', hu', hc⟩
  · have : (m : Int) + 1 = 0 := q
    omega
  · have e1 : (m : Int) + 1 = (m' : Int) + 1 := e1
    have e2 : (n : Int) + 1 = (n' : Int) + 1 := e2
    have em : m' = m := by omega
    have en : n' = n := by omega
    subst em en
    rw [ho] at ho'; rw [hu] at hu'
    injection ho' with ho'; injection hu' with hu'
    subst ho' hu'
    rw [hne] at hc; cases hc
theorem PrK.noVals {a b : List ObjL} {x y : Int} {row : List (Int × Int)} {k m n : Nat} {o u : ObjL} (h : PrK a b x y row k) (hk : row[k]? = some ((m : Int) + 1, (n : Int) + 1)) (ho : a[m]? = some o) (hu : b[n]? = some u) (hv : valsP a.length b.length row (o.vals.zip u.vals) = none) : ¬ AlikeP a b x y :=
  PrS.valsNo (h.pr _ (List.mem_of_getElem? hk)) ho hu (o.vals.zip u.vals) row (fun e he hk4 => by
    unfold kids kidsL
    exact List.mem_map.2 ⟨e, List.mem_filter.2 ⟨he, by simpa using hk4⟩, rfl⟩) (fun e he => he) h.toPrS hv
end Go.Proofs.Ytjhlbgohpofmnaa
