import Derived.Test.YtjjccimeikkogaaGreatDoorClsA
namespace Go.Proofs.YtjjccimeikkogaaGreatDoor
set_option linter.unusedVariables false
def atL : List ClassL → List UInt8 → Option Nat
 | [], _ => none
 | c :: r, s => if c.name.toList = s then some 0 else (atL r s).map (· + 1)
theorem atL_lt : ∀ {all : List ClassL} {s : List UInt8} {k : Nat}, atL all s = some k → ∃ h : k < all.length, all[k].name.toList = s
 | [], s, k, h => by simp [atL] at h
 | c :: r, s, k, h => by
  unfold atL at h
  by_cases e : c.name.toList = s
  ·rw [if_pos e] at h
   injection h with h
   subst h
   exact ⟨by simp, e⟩
  ·rw [if_neg e] at h
   cases hr : atL r s with
   | none => rw [hr] at h; simp at h
   | some j =>
    rw [hr] at h
    simp at h
    subst h
    obtain ⟨h1, h2⟩ := atL_lt hr
    exact ⟨by simp; omega, by simpa using h2⟩
theorem atL_none : ∀ {all : List ClassL} {s : List UInt8}, (∀ c ∈ all, c.name.toList ≠ s) → atL all s = none
 | [], s, h => rfl
 | c :: r, s, h => by
  unfold atL
  rw [if_neg (h c (by simp)), atL_none fun x hx => h x (by simp [hx])]
  rfl
def Named (all : List ClassL) : Prop := (all.map fun c => c.name.toList).Nodup
theorem atL_self : ∀ {all : List ClassL} (hn : Named all) {k : Nat} (h : k < all.length), atL all all[k].name.toList = some k
 | [], _, k, h => by simp at h
 | c :: r, hn, k, h => by
  unfold Named at hn
  simp only [List.map_cons, List.nodup_cons] at hn
  cases k with
  | zero => simp [atL]
  | succ j =>
   have hj : j < r.length := by simpa using h
   have hne : c.name.toList ≠ r[j].name.toList := fun e => hn.1 (List.mem_map.2 ⟨r[j], List.getElem_mem _, e.symm⟩)
   have ih := atL_self (all := r) hn.2 hj
   simp only [List.getElem_cons_succ]
   unfold atL
   rw [if_neg hne, ih]
   rfl
def parL (c : ClassL) : List ByteArray := c.super :: c.ifs
def meetL (all : List ClassL) (row : List Nat) (s : ByteArray) : List Nat :=
 match atL all s.toList with
 | some k => if k ∈ row then row else row ++ [k]
 | none => row
def meetsL (all : List ClassL) (row : List Nat) (ss : List ByteArray) : List Nat := ss.foldl (meetL all) row
theorem meetsL_snoc (all : List ClassL) (row : List Nat) (ss : List ByteArray) (s : ByteArray) : meetsL all row (ss ++ [s]) = meetL all (meetsL all row ss) s := by
 simp [meetsL]
theorem meetsL_take {all : List ClassL} {row : List Nat} {ss : List ByteArray} {m : Nat} (h : m < ss.length) : meetsL all row (ss.take (m + 1)) = meetL all (meetsL all row (ss.take m)) ss[m] := by
 rw [List.take_add_one, List.getElem?_eq_getElem h]
 exact meetsL_snoc _ _ _ _
structure RowK (all : List ClassL) (row : List Nat) : Prop where
 nd : row.Nodup
 lt : ∀ k ∈ row, k < all.length
theorem RowK.nil (all : List ClassL) : RowK all [] := ⟨List.nodup_nil, fun k h => by cases h⟩
theorem RowK.meet {all : List ClassL} {row : List Nat} (h : RowK all row) (s : ByteArray) : RowK all (meetL all row s) := by
 unfold meetL
 cases e : atL all s.toList with
 | none => exact h
 | some k =>
  simp only
  split
  ·exact h
  ·rename_i hk
   obtain ⟨hlt, -⟩ := atL_lt e
   refine ⟨?_, fun j hj => ?_⟩
   ·rw [List.nodup_append]
    exact ⟨h.nd, by simp, fun a ha b hb => by simp at hb; subst hb; exact fun q => hk (q ▸ ha)⟩
   ·rcases List.mem_append.1 hj with hj | hj
    ·exact h.lt j hj
    ·simp at hj; subst hj; exact hlt
theorem RowK.meets {all : List ClassL} : ∀ (ss : List ByteArray) {row : List Nat} (h : RowK all row), RowK all (meetsL all row ss)
 | [], _, h => h
 | s :: r, _, h => RowK.meets r (h.meet s)
theorem nodup_lenK : ∀ {l m : List Nat}, l.Nodup → (∀ z ∈ l, z ∈ m) → l.length ≤ m.length
 | [], m, _, _ => by simp
 | z :: l, m, h, hs => by
  have hz := List.nodup_cons.1 h
  have hm : z ∈ m := hs z (by simp)
  have h1 := nodup_lenK (m := m.erase z) hz.2 fun y hy => by
   have hne : y ≠ z := fun q => hz.1 (q ▸ hy)
   exact (List.mem_erase_of_ne hne).2 (hs y (by simp [hy]))
  have h2 := List.length_erase_of_mem hm
  have h3 := List.length_pos_of_mem hm
  simp only [List.length_cons]
  omega
theorem RowK.len {all : List ClassL} {row : List Nat} (h : RowK all row) : row.length ≤ all.length := by
 have := nodup_lenK (m := List.range all.length) h.nd fun z hz => List.mem_range.2 (h.lt z hz)
 simpa using this
theorem meetL_pre (all : List ClassL) (row : List Nat) (s : ByteArray) : row <+: meetL all row s := by
 unfold meetL
 split
 ·split
  ·exact List.prefix_refl _
  ·exact List.prefix_append _ _
 ·exact List.prefix_refl _
theorem meetsL_pre (all : List ClassL) : ∀ (ss : List ByteArray) (row : List Nat), row <+: meetsL all row ss
 | [], _ => List.prefix_refl _
 | s :: r, row => (meetL_pre all row s).trans (meetsL_pre all r _)
def parK (all : List ClassL) (k : Nat) : List ByteArray := ((all[k]?).map parL).getD []
def abvF (all : List ClassL) : Nat → Nat → List Nat → List Nat
 | 0, _, row => row
 | n + 1, at', row => match row[at']? with
  | some k => abvF all n (at' + 1) (meetsL all row (parK all k))
  | none => row
def abvL (all : List ClassL) (s : List UInt8) : List Nat := abvF all all.length 0 (meetL all [] ⟨s.toArray⟩)
theorem abvF_end {all : List ClassL} {row : List Nat} {at' : Nat} (h : row.length ≤ at') : ∀ n, abvF all n at' row = row
 | 0 => rfl
 | n + 1 => by unfold abvF; rw [List.getElem?_eq_none h]
theorem abvF_step {all : List ClassL} {row : List Nat} {at' : Nat} (h : at' < row.length) (n : Nat) : abvF all (n + 1) at' row = abvF all n (at' + 1) (meetsL all row (parK all row[at'])) := by
 rw [abvF, List.getElem?_eq_getElem h]
theorem abvF_pre (all : List ClassL) : ∀ (n at' : Nat) (row : List Nat), row <+: abvF all n at' row
 | 0, _, row => List.prefix_refl _
 | n + 1, at', row => by
  unfold abvF
  split
  ·exact (meetsL_pre all _ row).trans (abvF_pre all n _ _)
  ·exact List.prefix_refl _
theorem abvF_row {all : List ClassL} : ∀ (n at' : Nat) {row : List Nat} (h : RowK all row), RowK all (abvF all n at' row)
 | 0, _, row, h => h
 | n + 1, at', row, h => by
  unfold abvF
  split
  ·exact abvF_row n _ (h.meets _)
  ·exact h
structure Abv (all : List ClassL) (R : List Nat) (at' : Nat) (row : List Nat) : Prop where
 rk : RowK all row
 le : at' ≤ row.length
 eq : abvF all (all.length - at') at' row = R
theorem Abv.start (all : List ClassL) (s : ByteArray) : Abv all (abvL all s.toList) 0 (meetL all [] s) := by
 refine ⟨(RowK.nil all).meet s, Nat.zero_le _, ?_⟩
 unfold abvL
 have e : meetL all [] ⟨s.toList.toArray⟩ = meetL all [] s := by
  unfold meetL
  rw [show (⟨s.toList.toArray⟩ : ByteArray).toList = s.toList by rw [ByteArray.toList_eq]]
 rw [e]
 rfl
theorem Abv.next {all : List ClassL} {R row : List Nat} {at' : Nat} (h : Abv all R at' row) (hlt : at' < row.length) : Abv all R (at' + 1) (meetsL all row (parK all row[at'])) := by
 have hl := h.rk.len
 refine ⟨h.rk.meets _, ?_, ?_⟩
 ·have := (meetsL_pre all (parK all row[at']) row).length_le
  omega
 ·rw [← h.eq, show all.length - at' = (all.length - (at' + 1)) + 1 by omega, abvF_step hlt]
theorem Abv.done {all : List ClassL} {R row : List Nat} {at' : Nat} (h : Abv all R at' row) (he : row.length ≤ at') : row = R := by
 rw [← h.eq, abvF_end he]
theorem Abv.pre {all : List ClassL} {R row : List Nat} {at' : Nat} (h : Abv all R at' row) : row <+: R := by
 rw [← h.eq]; exact abvF_pre all _ _ _
theorem abvL_row (all : List ClassL) (s : List UInt8) : RowK all (abvL all s) := abvF_row _ _ ((RowK.nil all).meet _)
def nameK (all : List ClassL) (k : Nat) : ByteArray := ((all[k]?).map ClassL.name).getD ⟨#[]⟩
theorem nameK_get {all : List ClassL} {k : Nat} (h : k < all.length) : nameK all k = all[k].name := by
 unfold nameK; rw [List.getElem?_eq_getElem h]; rfl
theorem parK_get {all : List ClassL} {k : Nat} (h : k < all.length) : parK all k = parL all[k] := by
 unfold parK; rw [List.getElem?_eq_getElem h]; rfl
theorem in_names {all : List ClassL} (hn : Named all) {row : List Nat} (h : RowK all row) {s : List UInt8} {k : Nat} (hk : atL all s = some k) : ((row.map (nameK all)).any fun y => decide (y.toList = s)) = decide (k ∈ row) := by
 obtain ⟨hlt, hs⟩ := atL_lt hk
 rw [Bool.eq_iff_iff]
 simp only [List.any_eq_true, List.mem_map, decide_eq_true_eq]
 constructor
 ·rintro ⟨y, ⟨j, hj, rfl⟩, hy⟩
  have hjl := h.lt j hj
  rw [nameK_get hjl] at hy
  have := atL_self hn hjl
  rw [hy, hk] at this
  injection this with this
  exact this ▸ hj
 ·intro hj
  exact ⟨nameK all k, ⟨k, hj, rfl⟩, by rw [nameK_get hlt]; exact hs⟩
def abvB (all : List ClassL) (x y : List UInt8) : Bool :=
 match atL all y with
 | some k => decide (k ∈ abvL all x)
 | none => false
theorem abvL_none {all : List ClassL} {x : List UInt8} (h : atL all x = none) : abvL all x = [] := by
 unfold abvL meetL
 rw [show (⟨x.toArray⟩ : ByteArray).toList = x by rw [ByteArray.toList_eq], h]
 exact abvF_end (by simp) _
theorem in_abv {all : List ClassL} (hn : Named all) (x y : List UInt8) : (((abvL all x).map (nameK all)).any fun z => decide (z.toList = y)) = abvB all x y := by
 unfold abvB
 cases e : atL all y with
 | some k => exact in_names hn (abvL_row all x) e
 | none =>
  simp only
  rw [Bool.eq_false_iff]
  intro h
  simp only [List.any_eq_true, List.mem_map, decide_eq_true_eq] at h
  obtain ⟨z, ⟨j, hj, rfl⟩, hz⟩ := h
  have hl := (abvL_row all x).lt j hj
  rw [nameK_get hl] at hz
  have := atL_self hn hl
  rw [hz, e] at this
  cases this
def refL (l : List UInt8) : Bool := decide (kindL l = 4)
def arrL (l : List UInt8) : Bool := refL l && decide (l.head? = some 91)
def atR (l : List UInt8) : Bool := decide (l.head? = some 64)
theorem kind_form {l : List UInt8} (h : kindL l = 4) : (∃ r, l = 64 :: r) ∨ ∃ r, l = 91 :: r := by
 unfold kindL at h
 split at h
 ·cases h
 ·rename_i h1
  split at h
  ·rename_i h2
   cases l with
   | nil => simp [dimsL] at h2
   | cons b r =>
    simp only [dimsL] at h2
    split at h2
    ·rename_i hb; exact .inr ⟨r, by rw [hb]⟩
    ·omega
  ·rename_i h2
   have hd : dimsL l = 0 := by omega
   unfold plainL at h
   split at h
   ·cases h
   ·cases h
   ·cases h
   ·exact .inl ⟨_, rfl⟩
   ·cases h
def objT : List UInt8 := [64, 79, 98, 106, 101, 99, 116]
def objN : List UInt8 := [79, 98, 106, 101, 99, 116]
def isaS (ab : List UInt8 → List UInt8 → Bool) : List UInt8 → List UInt8 → Bool
 | [], u => if [] = u then typeL [] else false
 | b :: t, u =>
  if b :: t = u then typeL (b :: t)
  else if b :: t = [48] then refL u
  else if !refL (b :: t) || !refL u then false
  else if u = objT then true
  else if atR (b :: t) && atR u then ab t u.tail
  else arrL (b :: t) && (arrL u && (refL t && (refL u.tail && isaS ab t u.tail)))
def isofI (ab : List UInt8 → List UInt8 → Bool) (takes : List UInt8 → Bool) : List UInt8 → List UInt8 → Bool
 | [], u => if kindL u = 0 then false else decide ([] = u)
 | b :: t, u =>
  if kindL u = 0 then false
  else if b :: t = u then true
  else if kindL u ≠ 4 ∨ !(decide (b :: t = [48]) || refL (b :: t)) then false
  else if b :: t = [48] then true
  else if atR u && takes u.tail then true
  else if atR (b :: t) then atR u && ab t u.tail
  else !atR u && isofI ab takes t u.tail
theorem atR_ref {l : List UInt8} (h : refL l = true) (ha : atR l = false) : ∃ r, l = 91 :: r := by
 rcases kind_form (of_decide_eq_true h) with ⟨r, rfl⟩ | h
 ·simp [atR] at ha
 ·exact h
theorem refL_ne {l : List UInt8} (h : refL l = true) : l ≠ [48] := by
 rintro rfl
 revert h; decide
theorem isa_same (ab : List UInt8 → List UInt8 → Bool) : ∀ t u, isaS ab t u = isofI ab (fun s => decide (s = objN)) t u
 | [], u => by
  unfold isaS isofI
  by_cases e : [] = u
  ·subst e; decide
  ·rw [if_neg e, decide_eq_false e]; split <;> rfl
 | b :: t, u => by
  have ih := isa_same ab t u.tail
  unfold isaS isofI
  by_cases e : b :: t = u
  ·rw [if_pos e]
   by_cases hk : kindL u = 0
   ·rw [if_pos hk, e]; unfold typeL; rw [hk]; rfl
   ·rw [if_neg hk, if_pos e, e]; unfold typeL; simp [hk]
  ·rw [if_neg e]
   by_cases h0 : b :: t = [48]
   ·rw [if_pos h0]
    by_cases hk : kindL u = 0
    ·rw [if_pos hk]; unfold refL; rw [hk]; rfl
    ·rw [if_neg hk, if_neg e, if_pos h0]
     by_cases h4 : kindL u = 4
     ·rw [if_neg (by simp [h4, h0])]; simp [refL, h4]
     ·rw [if_pos (.inl h4)]; simp [refL, h4]
   ·rw [if_neg h0]
    by_cases hk : kindL u = 0
    ·rw [if_pos hk]
     have : refL u = false := by unfold refL; rw [hk]; rfl
     rw [this]; simp
    ·rw [if_neg hk, if_neg e]
     by_cases hu : refL u = true
     ·have h4 : kindL u = 4 := of_decide_eq_true hu
      by_cases ht : refL (b :: t) = true
      ·have c1 : ¬ ((!refL (b :: t) || !refL u) = true) := by simp [hu, ht]
       have c2 : ¬ (kindL u ≠ 4 ∨ (!(decide (b :: t = [48]) || refL (b :: t))) = true) := by simp [h4, ht]
       rw [if_neg c1, if_neg c2, if_neg h0]
       by_cases ho : u = objT
       ·rw [if_pos ho, if_pos (by rw [ho]; decide)]
       ·rw [if_neg ho]
        have hn : ¬ ((atR u && decide (u.tail = objN)) = true) := by
         intro h
         simp only [Bool.and_eq_true, decide_eq_true_eq] at h
         refine ho ?_
         cases u with
         | nil => simp [atR] at h
         | cons x y =>
          simp [atR] at h
          rw [h.1, h.2]; rfl
        rw [if_neg hn]
        cases ha : atR (b :: t) with
        | true =>
         cases hb : atR u with
         | true => simp
         | false =>
          have : arrL (b :: t) = false := by
           unfold arrL; simp [atR] at ha; subst ha; simp
          simp [this]
        | false =>
         cases hb : atR u with
         | true =>
          have : arrL u = false := by
           unfold arrL
           have : u.head? = some 64 := of_decide_eq_true hb
           rw [this]; simp
          simp [this]
         | false =>
          obtain ⟨r, hr⟩ := atR_ref ht ha
          obtain ⟨v, rfl⟩ := atR_ref hu hb
          injection hr with hr1 hr2
          subst hr1 hr2
          have a1 : arrL (91 :: t) = true := by unfold arrL; rw [ht]; rfl
          have a2 : arrL (91 :: v) = true := by unfold arrL; rw [hu]; rfl
          rw [a1, a2, if_neg (by simp)]
          simp only [List.tail_cons, Bool.true_and, Bool.not_false, Bool.false_eq_true, if_false]
          simp only [List.tail_cons] at ih
          by_cases r1 : refL t = true
          ·by_cases r2 : refL v = true
           ·rw [r1, r2, ← ih]; rfl
           ·rw [r1]
            simp only [Bool.not_eq_true] at r2
            rw [r2, ← ih]
            cases t with
            | nil => exact absurd (show refL [] = true from r1) (by decide)
            | cons p q =>
             unfold isaS
             rw [if_neg (fun e' => by rw [e', r2] at r1; cases r1), if_neg (refL_ne r1), if_pos (by simp [r2])]
             rfl
          ·simp only [Bool.not_eq_true] at r1
           rw [r1, ← ih]
           have hv : t ≠ v := fun q => e (by rw [q])
           cases t with
           | nil => unfold isaS; rw [if_neg hv]; rfl
           | cons p q =>
            have hz : p :: q ≠ [48] := by
             intro q0
             rw [q0] at ht
             revert ht; decide
            unfold isaS
            rw [if_neg hv, if_neg hz, if_pos (by simp [r1])]
            rfl
      ·simp only [Bool.not_eq_true] at ht
       have c1 : (!refL (b :: t) || !refL u) = true := by simp [ht]
       have c2 : kindL u ≠ 4 ∨ (!(decide (b :: t = [48]) || refL (b :: t))) = true := .inr (by simp [ht, h0])
       rw [if_pos c1, if_pos c2]
     ·simp only [Bool.not_eq_true] at hu
      have h4 : kindL u ≠ 4 := of_decide_eq_false hu
      have c1 : (!refL (b :: t) || !refL u) = true := by simp [hu]
      have c2 : kindL u ≠ 4 ∨ (!(decide (b :: t = [48]) || refL (b :: t))) = true := .inl h4
      rw [if_pos c1, if_pos c2]
theorem isaS_ref {ab : List UInt8 → List UInt8 → Bool} {t u : List UInt8} (h1 : t ≠ u) (h2 : t ≠ [48]) (h3 : refL t = false ∨ refL u = false) : isaS ab t u = false := by
 cases t with
 | nil => unfold isaS; rw [if_neg h1]
 | cons b r =>
  unfold isaS
  have c : (!refL (b :: r) || !refL u) = true := by rcases h3 with h | h <;> simp [h]
  rw [if_neg h1, if_neg h2, if_pos c]
theorem arr_at {l : List UInt8} (h : atR l = true) : arrL l = false := by
 unfold arrL
 rw [show l.head? = some 64 from of_decide_eq_true h]; simp
theorem arr_ref {l : List UInt8} (h : refL l = false) : arrL l = false := by unfold arrL; rw [h]; rfl
end Go.Proofs.YtjjccimeikkogaaGreatDoor
