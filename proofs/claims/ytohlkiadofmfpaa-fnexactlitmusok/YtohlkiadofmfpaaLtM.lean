/- What the program asks of a thread's acts, and what the specification asks: the same. -/
import Derived.Test.YtohlkiadofmfpaaLtD
namespace Go.Proofs.Ytohlkiadofmfpaa
set_option linter.unusedVariables false

def actC (vars locks : Int) (a : ActL) : Bool :=
  if a.kind = 1 then btw a.var 0 (vars - 1) && a.n == 0
  else if a.kind = 2 ∨ a.kind = 3 then btw a.var 0 (vars - 1) && btw a.n (-100) 100
  else if a.kind = 4 ∨ a.kind = 5 then btw a.var 0 (locks - 1) && a.n == 0
  else false
def isL (a : ActL) : Bool := a.kind == 4 || a.kind == 5
def lockStep (v : Int) (h : Bool) (a : ActL) : Bool := if (isL a && a.var == v) = true then a.kind == 4 else h
def hasL (acts : List ActL) (v : Int) : Bool := acts.foldl (lockStep v) false
def badA (pre : List ActL) (a : ActL) : Bool := isL a && (hasL pre a.var == (a.kind == 4))
def okFrom : List ActL → List ActL → Bool
  | _, [] => true
  | pre, a :: l => !badA pre a && okFrom (pre ++ [a]) l
theorem hasL_snoc (pre : List ActL) (a : ActL) (v : Int) : hasL (pre ++ [a]) v = lockStep v (hasL pre v) a := by
  simp [hasL, List.foldl_append]
theorem btw_iff (a lo hi : Int) : btw a lo hi = true ↔ lo ≤ a ∧ a ≤ hi := by simp [btw]
theorem step_eq {vars locks : Int} (hl : locks ≤ 2) (pre : List ActL) (a : ActL) :
    actStep vars locks (hasL pre 0, hasL pre 1) a = if (actC vars locks a && !badA pre a) = true then some (hasL (pre ++ [a]) 0, hasL (pre ++ [a]) 1) else none := by
  obtain ⟨k, v, n⟩ := a
  rw [hasL_snoc, hasL_snoc]
  by_cases h1 : k = 1
  · subst h1; simp [actStep, actC, badA, isL, lockStep]
  by_cases h2 : k = 2
  · subst h2; simp [actStep, actC, badA, isL, lockStep]
  by_cases h3 : k = 3
  · subst h3; simp [actStep, actC, badA, isL, lockStep]
  by_cases h4 : k = 4 ∨ k = 5
  · by_cases hb : btw v 0 (locks - 1) = true
    · obtain ⟨b0, b1⟩ := (btw_iff _ _ _).1 hb
      have hv : v = 0 ∨ v = 1 := by omega
      have hk : ((k == 4) || (k == 5)) = true := by rcases h4 with h | h <;> simp [h]
      rcases hv with rfl | rfl
      · simp only [actStep, actC, badA, isL, lockStep, h1, h2, h3, h4, hb, hk, heldAt, heldSet]
        by_cases hn : n = 0 <;> simp [hn] <;> cases hasL pre 0 <;> cases (k == 4) <;> simp
      · simp only [actStep, actC, badA, isL, lockStep, h1, h2, h3, h4, hb, hk, heldAt, heldSet]
        by_cases hn : n = 0 <;> simp [hn] <;> cases hasL pre 1 <;> cases (k == 4) <;> simp
    · have hb' : btw v 0 (locks - 1) = false := by simpa using hb
      simp [actStep, actC, h1, h2, h3, h4, hb']
  · simp [actStep, actC, h1, h2, h3, h4]
theorem tail_eq {vars locks : Int} (hl : locks ≤ 2) : ∀ (rest pre : List ActL), tailB vars locks (hasL pre 0, hasL pre 1) rest = (rest.all (actC vars locks) && (okFrom pre rest && (!hasL (pre ++ rest) 0 && !hasL (pre ++ rest) 1)))
  | [], pre => by simp [tailB, okFrom]
  | a :: l, pre => by
    rw [tailB, step_eq hl]
    cases hc : actC vars locks a
    · simp [hc]
    · cases hb : badA pre a
      · have := tail_eq (vars := vars) hl l (pre ++ [a])
        simp only [Bool.true_and, Bool.not_false, if_true, List.all_cons, hc, okFrom, hb]
        rw [this]
        simp
      · simp [hc, okFrom, hb]
theorem thread_eq {vars locks : Int} (hl : locks ≤ 2) (acts : List ActL) : threadB vars locks acts = (decide (acts.length ≤ 4) && (acts.all (actC vars locks) && (okFrom [] acts && (!hasL acts 0 && !hasL acts 1)))) := by
  rw [threadB, show ((false, false) : Bool × Bool) = (hasL [] 0, hasL [] 1) from rfl, tail_eq hl acts []]
  rfl
theorem foldl_none (v : Int) : ∀ (acts : List ActL) (h : Bool), (∀ a ∈ acts, (isL a && a.var == v) = false) → acts.foldl (lockStep v) h = h
  | [], _, _ => rfl
  | a :: l, h, hx => by
    rw [List.foldl_cons, show lockStep v h a = h from by simp [lockStep, hx a (by simp)]]
    exact foldl_none v l h fun b hb => hx b (by simp [hb])
theorem hasL_none {vars locks : Int} {acts : List ActL} (hc : acts.all (actC vars locks) = true) {v : Int} (hv : locks ≤ v) : hasL acts v = false := by
  refine foldl_none v acts false fun a ha => ?_
  have h := List.all_eq_true.1 hc a ha
  obtain ⟨k, u, n⟩ := a
  by_cases hk : k = 4 ∨ k = 5
  · have h1 : k ≠ 1 := by omega
    have h23 : ¬ (k = 2 ∨ k = 3) := by omega
    simp only [actC, h1, h23, hk, if_true, if_false, Bool.and_eq_true, btw_iff] at h
    have hne : u ≠ v := by omega
    simp [hne]
  · have : isL ⟨k, u, n⟩ = false := by simp only [isL]; simp; omega
    simp [this]
/-- What the ends ask from the lock j on. -/
def endB (acts : List ActL) (j : Nat) : Bool := (decide (1 ≤ j) || !hasL acts 0) && (decide (2 ≤ j) || !hasL acts 1)
theorem endB_zero (acts : List ActL) : endB acts 0 = (!hasL acts 0 && !hasL acts 1) := by simp [endB]
theorem endB_has {acts : List ActL} {j : Nat} (hj : j < 2) (h : hasL acts j = true) : endB acts j = false := by
  rcases (by omega : j = 0 ∨ j = 1) with rfl | rfl
  · have h : hasL acts 0 = true := h
    simp [endB, h]
  · have h : hasL acts 1 = true := h
    simp [endB, h]
theorem endB_next {acts : List ActL} {j : Nat} (hj : j < 2) (h : hasL acts j = false) : endB acts j = endB acts (j + 1) := by
  rcases (by omega : j = 0 ∨ j = 1) with rfl | rfl
  · have h : hasL acts 0 = false := h
    simp [endB, h]
  · have h : hasL acts 1 = false := h
    simp [endB, h]
theorem endB_end {vars locks : Int} {acts : List ActL} (hc : acts.all (actC vars locks) = true) {j : Nat} (hj : locks ≤ j) : endB acts j = true := by
  have a0 : 1 ≤ j ∨ hasL acts 0 = false := by
    by_cases h : 1 ≤ j
    · exact .inl h
    · exact .inr (hasL_none hc (by omega))
  have a1 : 2 ≤ j ∨ hasL acts 1 = false := by
    by_cases h : 2 ≤ j
    · exact .inl h
    · exact .inr (hasL_none hc (by omega))
  rcases a0 with h | h <;> rcases a1 with h' | h' <;> simp [endB, h, h']
theorem okFrom_bad {acts : List ActL} {k : Nat} (hk : k < acts.length) (h : badA (acts.take k) acts[k] = true) : okFrom (acts.take k) (acts.drop k) = false := by
  rw [List.drop_eq_getElem_cons hk, okFrom, h]; rfl
theorem okFrom_good {acts : List ActL} {k : Nat} (hk : k < acts.length) (h : badA (acts.take k) acts[k] = false) : okFrom (acts.take k) (acts.drop k) = okFrom (acts.take (k + 1)) (acts.drop (k + 1)) := by
  rw [List.drop_eq_getElem_cons hk, okFrom, h, List.take_succ_eq_append_getElem hk]; rfl
theorem foldl_take_step (v : Int) {acts : List ActL} {k : Nat} (hk : k < acts.length) : hasL (acts.take (k + 1)) v = lockStep v (hasL (acts.take k) v) acts[k] := by
  rw [List.take_succ_eq_append_getElem hk, hasL_snoc]
theorem ListAt.take {α : Type} {R : Rd α} {k : Nat} {own : Bool} {lo hi : Nat} {w : World} {a : Option Addr} {n c : Nat} {xs : List α} (h : ListAt R k own lo hi w (.slice a n c) xs) {m : Nat} (hm : m ≤ xs.length) : ListAt R k own lo hi w (.slice a m c) (xs.take m) := by
  rcases h with ⟨ho, rfl, a', c', hv⟩ | ⟨b, off, c', hv, hlo, hhi, ho, hc⟩
  · have : m = 0 := by simpa using hm
    subst this
    injection hv with e1 e2 e3
    exact .inl ⟨ho, rfl, a, c, rfl⟩
  · injection hv with e1 e2 e3
    subst e1 e3
    have hlen : (xs.take m).length = m := by simp [hm]
    refine .inr ⟨b, off, c, by rw [hlen], hlo, hhi, fun h => ⟨(ho h).1, ?_, ?_⟩, fun j hj => ?_⟩
    · rw [hlen]
      exact there_part (ho h).2.1 (by rw [Nat.zero_add]; exact Nat.mul_le_mul_right k hm)
    · rw [hlen]
      exact Nat.le_trans hm (ho h).2.2
    · rw [hlen] at hj
      obtain ⟨row, hl, hr, hx, hy⟩ := hc j (by omega)
      exact ⟨row, hl, hr, by rw [List.getElem_take]; exact hx, fun h => by rw [List.getElem_take]; exact hy h⟩
theorem ListAt.cap {α : Type} {R : Rd α} {k : Nat} {lo hi : Nat} {w : World} {a : Option Addr} {n c : Nat} {xs : List α} (h : ListAt R k true lo hi w (.slice a n c) xs) : xs.length ≤ c := by
  rcases h with ⟨ho, _⟩ | ⟨b, off, c', hv, hlo, hhi, ho, hc⟩
  · cases ho
  · injection hv with e1 e2 e3
    subst e3
    exact (ho rfl).2.2
end Go.Proofs.Ytohlkiadofmfpaa
