/- Races in their order, each once; what is ahead of what, by ways. -/
import Derived.Test.YtknbchheoloaoaaGreatSoN
import Derived.Test.YtknbchheoloaoaaGreatSoA
import Derived.Test.YtknbchheoloaoaaGreatSoI
import Derived.Test.YtknbchheoloaoaaGreatSoK
namespace Go.Proofs.YtknbchheoloaoaaGreat
set_option linter.unusedVariables false

theorem cmpL_refl : ∀ l : List Int, cmpL l l = 0
 | [] => rfl
 | x :: l => by rw [cmpL_eq]; exact cmpL_refl l
theorem cmpL_zero : ∀ l m : List Int, cmpL l m = 0 → l = m
 | [], [], _ => rfl
 | [], _ :: _, h => by simp [cmpL] at h
 | _ :: _, [], h => by simp [cmpL] at h
 | x :: l, y :: m, h => by
  by_cases hxy : x = y
  ·subst hxy
   rw [cmpL_eq] at h
   rw [cmpL_zero l m h]
  ·rw [cmpL_ne hxy] at h
   unfold signI at h
   split at h
   ·cases h
   ·split at h
    ·cases h
    ·omega
theorem cmpL_neg : ∀ l m : List Int, cmpL l m = - cmpL m l
 | [], [] => rfl
 | [], _ :: _ => by simp [cmpL]
 | _ :: _, [] => by simp [cmpL]
 | x :: l, y :: m => by
  by_cases hxy : x = y
  ·subst hxy
   rw [cmpL_eq, cmpL_eq]; exact cmpL_neg l m
  ·rw [cmpL_ne hxy, cmpL_ne (Ne.symm hxy)]
   unfold signI
   by_cases h1 : x < y
   ·have : ¬ y < x := by omega
    simp [h1, this]
   ·have : y < x := by omega
    simp [h1, this]
theorem cmpL_trans : ∀ l m n : List Int, cmpL l m < 0 → cmpL m n < 0 → cmpL l n < 0
 | [], [], n, h, _ => by simp [cmpL] at h
 | [], _ :: _, [], _, h => by simp [cmpL] at h
 | [], _ :: _, _ :: _, _, _ => by simp [cmpL]
 | _ :: _, [], _, h, _ => by simp [cmpL] at h
 | _ :: _, _ :: _, [], _, h => by simp [cmpL] at h
 | x :: l, y :: m, z :: n, h1, h2 => by
  unfold cmpL at h1 h2 ⊢
  by_cases a1 : x < y
  ·by_cases b1 : y < z
   ·rw [if_pos (by omega : x < z)]; omega
   ·rw [if_neg b1] at h2
    by_cases b2 : z < y
    ·rw [if_pos b2] at h2; omega
    ·have : y = z := by omega
     subst this
     rw [if_pos a1]; omega
  ·rw [if_neg a1] at h1
   by_cases a2 : y < x
   ·rw [if_pos a2] at h1; omega
   ·rw [if_neg a2] at h1
    have : x = y := by omega
    subst this
    by_cases b1 : x < z
    ·rw [if_pos b1]; omega
    ·rw [if_neg b1] at h2 ⊢
     by_cases b2 : z < x
     ·rw [if_pos b2] at h2; omega
     ·rw [if_neg b2] at h2 ⊢
      exact cmpL_trans l m n h1 h2
theorem RaceL.z_inj {r q : RaceL} (h : r.z = q.z) : r = q := by
 obtain ⟨a, b, c, d⟩ := r
 obtain ⟨a', b', c', d'⟩ := q
 simp [RaceL.z] at h
 obtain ⟨rfl, rfl, rfl, rfl⟩ := h
 rfl
theorem lessR_irrefl (r : RaceL) : lessR r r = false := by simp [lessR, cmpL_refl]
theorem lessR_trans {r q p : RaceL} (h1 : lessR r q = true) (h2 : lessR q p = true) : lessR r p = true := by
 simp only [lessR, decide_eq_true_eq] at *
 exact cmpL_trans _ _ _ h1 h2
theorem lessR_total {r q : RaceL} (h : lessR r q = false) (hne : r ≠ q) : lessR q r = true := by
 simp only [lessR, decide_eq_true_eq, decide_eq_false_iff_not] at *
 have h1 := cmpL_neg r.z q.z
 have h2 : cmpL r.z q.z ≠ 0 := fun e => hne (RaceL.z_inj (cmpL_zero _ _ e))
 omega
abbrev SortedR (rs : List RaceL) : Prop := rs.Pairwise fun r q => lessR r q = true
def insS : List RaceL → RaceL → List RaceL
 | [], r => [r]
 | q :: l, r => if lessR q r = true then q :: insS l r else if q = r then q :: l else r :: q :: l
theorem posR_cons (q : RaceL) (l : List RaceL) (r : RaceL) : posR (q :: l) r = if lessR q r = true then posR l r + 1 else 0 := by
 unfold posR
 rw [List.takeWhile_cons]
 split <;> simp
theorem insR_eq : ∀ (rs : List RaceL) (r : RaceL), insR rs r = insS rs r
 | [], r => by simp [insR, insS]
 | q :: l, r => by
  have ih := insR_eq l r
  unfold insR at ih ⊢
  rw [posR_cons, insS]
  by_cases h : lessR q r = true
  ·rw [if_pos h, if_pos h]
   rw [← ih]
   simp only [List.getElem?_cons_succ, List.take_succ_cons, List.drop_succ_cons, List.cons_append]
   split <;> rfl
  ·rw [if_neg h, if_neg h]
   simp
theorem mem_insS {p : RaceL} : ∀ {rs : List RaceL} {r : RaceL}, p ∈ insS rs r ↔ p = r ∨ p ∈ rs
 | [], r => by simp [insS]
 | q :: l, r => by
  unfold insS
  split
  ·rw [List.mem_cons, mem_insS, List.mem_cons]
   constructor
   ·rintro (h | h | h)
    ·exact .inr (.inl h)
    ·exact .inl h
    ·exact .inr (.inr h)
   ·rintro (h | h | h)
    ·exact .inr (.inl h)
    ·exact .inl h
    ·exact .inr (.inr h)
  ·split
   ·rename_i h
    subst h
    simp
   ·simp
theorem sorted_insS : ∀ {rs : List RaceL} {r : RaceL}, SortedR rs → SortedR (insS rs r)
 | [], r, _ => by simp [insS]
 | q :: l, r, h => by
  obtain ⟨h1, h2⟩ := List.pairwise_cons.1 h
  unfold insS
  split
  ·rename_i hq
   refine List.pairwise_cons.2 ⟨fun p hp => ?_, sorted_insS h2⟩
   rcases mem_insS.1 hp with e | hp
   ·rw [e]; exact hq
   ·exact h1 p hp
  ·split
   ·exact h
   ·rename_i hq hne
    have hrq : lessR r q = true := lessR_total (by simpa using hq) hne
    refine List.pairwise_cons.2 ⟨fun p hp => ?_, h⟩
    rcases List.mem_cons.1 hp with e | hp
    ·rw [e]; exact hrq
    ·exact lessR_trans hrq (h1 p hp)
theorem foldIns : ∀ (L rs : List RaceL), SortedR rs → SortedR (L.foldl insR rs) ∧ ∀ p, p ∈ L.foldl insR rs ↔ p ∈ L ∨ p ∈ rs
 | [], rs, h => ⟨h, by simp⟩
 | r :: L, rs, h => by
  rw [List.foldl_cons, insR_eq]
  obtain ⟨h1, h2⟩ := foldIns L (insS rs r) (sorted_insS h)
  refine ⟨h1, fun p => ?_⟩
  rw [h2, mem_insS, List.mem_cons]
  constructor
  ·rintro (h | h | h)
   ·exact .inl (.inr h)
   ·exact .inl (.inl h)
   ·exact .inr h
  ·rintro ((h | h) | h)
   ·exact .inr (.inl h)
   ·exact .inl h
   ·exact .inr (.inr h)
theorem sorted_unique : ∀ {l m : List RaceL}, SortedR l → SortedR m → (∀ p, p ∈ l ↔ p ∈ m) → l = m
 | [], [], _, _, _ => rfl
 | [], q :: m, _, _, h => by have := (h q).2 (by simp); simp at this
 | r :: l, [], _, _, h => by have := (h r).1 (by simp); simp at this
 | r :: l, q :: m, h1, h2, h => by
  obtain ⟨a1, a2⟩ := List.pairwise_cons.1 h1
  obtain ⟨b1, b2⟩ := List.pairwise_cons.1 h2
  have hrq : r = q := by
   rcases List.mem_cons.1 ((h r).1 (by simp)) with e | hr
   ·exact e
   ·rcases List.mem_cons.1 ((h q).2 (by simp)) with e | hq
    ·exact e.symm
    ·have := lessR_trans (b1 r hr) (a1 q hq)
     rw [lessR_irrefl] at this; cases this
  subst hrq
  congr 1
  refine sorted_unique a2 b2 fun p => ?_
  constructor
  ·intro hp
   rcases List.mem_cons.1 ((h p).1 (List.mem_cons_of_mem _ hp)) with e | hp'
   ·have := a1 p hp
    rw [e, lessR_irrefl] at this; cases this
   ·exact hp'
  ·intro hp
   rcases List.mem_cons.1 ((h p).2 (List.mem_cons_of_mem _ hp)) with e | hp'
   ·have := b1 p hp
    rw [e, lessR_irrefl] at this; cases this
   ·exact hp'
inductive Pth (E : Nat → Nat → Bool) : Nat → Nat → Prop
 | one (i k : Nat) (h : i < k) (he : E i k = true) : Pth E i k
 | cons (i j k : Nat) (h : i < j) (he : E i j = true) (hp : Pth E j k) : Pth E i k
theorem Pth.lt {E : Nat → Nat → Bool} {i k : Nat} (h : Pth E i k) : i < k := by
 induction h with
 | one i k h _ => exact h
 | cons i j k h _ _ ih => omega
theorem Pth.snoc {E : Nat → Nat → Bool} {i j k : Nat} (h : Pth E i j) (hl : j < k) (he : E j k = true) : Pth E i k := by
 induction h with
 | one i j h h' => exact .cons i j k h h' (.one j k hl he)
 | cons i j' j h h' _ ih => exact .cons i j' k h h' (ih hl he)
theorem Pth.left {E : Nat → Nat → Bool} {i k : Nat} (h : Pth E i k) : E i k = true ∨ ∃ j, i < j ∧ j < k ∧ E i j = true ∧ Pth E j k := by
 cases h with
 | one _ _ _ he => exact .inl he
 | cons _ j _ h he hp => exact .inr ⟨j, h, hp.lt, he, hp⟩
theorem Pth.right {E : Nat → Nat → Bool} {i k : Nat} (h : Pth E i k) : E i k = true ∨ ∃ j, i < j ∧ j < k ∧ E j k = true ∧ Pth E i j := by
 induction h with
 | one i k _ he => exact .inl he
 | cons i j k h he hp ih =>
  rcases ih with e | ⟨j', h1, h2, e, hp'⟩
  ·exact .inr ⟨j, h, hp.lt, e, .one i j h he⟩
  ·exact .inr ⟨j', by omega, h2, e, .cons i j j' h he hp'⟩
end Go.Proofs.YtknbchheoloaoaaGreat

/- Serial runs of a test, told by the next acts alone: who has which lock, who can go on. -/
namespace Go.Proofs.YtknbchheoloaoaaGreat
set_option linter.unusedVariables false

theorem lit_ok {x : LitL} (h : litB x = true) : OkL x ∧ (0 ≤ x.vol ∧ x.vol ≤ x.vars) ∧ ∀ acts ∈ x.thr, okFrom [] acts = true := by
 simp only [litB, litHead, Bool.and_eq_true, btw_iff, decide_eq_true_eq, List.all_eq_true] at h
 obtain ⟨⟨hv, hvol, hk, hn0, hn1⟩, ht⟩ := h
 have hthr : ∀ acts ∈ x.thr, acts.length ≤ 4 ∧ (∀ a ∈ acts, actC x.vars x.locks a = true) ∧ okFrom [] acts = true := fun acts hm => by
  have := ht acts hm
  rw [thread_eq hk.2] at this
  simp only [Bool.and_eq_true, decide_eq_true_eq, List.all_eq_true] at this
  exact ⟨this.1, this.2.1, this.2.2.1⟩
 exact ⟨⟨hv.1, hv.2, hk.1, hk.2, hn0, hn1, fun acts hm => (hthr acts hm).1, fun acts hm => (hthr acts hm).2.1⟩, hvol, fun acts hm => (hthr acts hm).2.2⟩

theorem actAt_some {x : LitL} {t k : Nat} {a : ActL} (h : actAt x t k = some a) : ∃ acts, x.thr[t]? = some acts ∧ acts[k]? = some a := by
 unfold actAt at h
 cases e : x.thr[t]? with
 | none => rw [e] at h; cases h
 | some acts => rw [e] at h; exact ⟨acts, rfl, h⟩
theorem actAt_of_some {x : LitL} {t k : Nat} {acts : List ActL} (h : x.thr[t]? = some acts) : actAt x t k = acts[k]? := by
 unfold actAt; rw [h]; rfl

theorem wf_start {x : LitL} (ho : OkL x) : Wf x (startS x.thr.length x.vars.toNat) := by
 refine ⟨by simp [startS], by simp [startS], ?_, rfl, rfl, fun t h h' => ?_, fun t h h' => ?_⟩
 ·have := ho.v0
  simp only [startS, List.length_replicate]; omega
 ·simp only [startS, List.getElem_replicate]; omega
 ·simp only [startS, List.getElem_replicate, List.length_nil]; omega

theorem actS_pcs (s : S11) (t : Nat) (a : ActL) : (actS s t a).pcs = s.pcs.set t (s.pcs.getD t 0 + 1) := by
 unfold actS
 simp only
 split
 ·rfl
 split
 ·rfl
 split
 ·rfl
 split
 ·rfl
 ·rfl
theorem actS_locks (s : S11) (t : Nat) (a : ActL) : (actS s t a).locks = if a.kind = 1 ∨ a.kind = 2 ∨ a.kind = 3 then s.locks else s.locks.set a.var.toNat (if a.kind = 4 then (t : Int) + 1 else 0) := by
 unfold actS
 simp only
 by_cases h1 : a.kind = 1
 ·simp [h1]
 by_cases h2 : a.kind = 2
 ·simp [h2]
 by_cases h3 : a.kind = 3
 ·simp [h3]
 by_cases h4 : a.kind = 4
 ·simp [h4]
 ·simp [h1, h2, h3, h4]
theorem actS_buffers (s : S11) (t : Nat) (a : ActL) : (actS s t a).buffers = s.buffers := by
 unfold actS
 simp only
 split
 ·rfl
 split
 ·rfl
 split
 ·rfl
 split
 ·rfl
 ·rfl
theorem actS_memory (s : S11) (t : Nat) (a : ActL) : (actS s t a).memory.length = s.memory.length := by
 unfold actS
 simp only
 split
 ·rfl
 split
 ·simp
 split
 ·simp
 split
 ·rfl
 ·rfl
theorem actS_reads (s : S11) (t : Nat) (a : ActL) : (actS s t a).reads = s.reads ∨ ∃ z, (actS s t a).reads = s.reads.set t (s.reads.getD t [] ++ [z]) := by
 unfold actS
 simp only
 split
 ·exact .inr ⟨_, rfl⟩
 split
 ·exact .inl rfl
 split
 ·exact .inl rfl
 split
 ·exact .inl rfl
 ·exact .inl rfl

theorem pcOf_act {x : LitL} {s : S11} (hw : Wf x s) {t : Nat} (ht : t < x.thr.length) (a : ActL) (u : Nat) : pcOf (actS s t a) u = if u = t then pcOf s t + 1 else pcOf s u := by
 unfold pcOf
 rw [actS_pcs]
 have hl : t < s.pcs.length := by rw [hw.lp]; exact ht
 by_cases h : u = t
 ·subst h
  have := (hw.pn u hl ht).1
  simp only [List.getD_eq_getElem?_getD, List.getElem?_set_self hl, Option.getD_some, List.getElem?_eq_getElem hl, if_true]
  omega
 ·simp only [List.getD_eq_getElem?_getD, List.getElem?_set_ne (fun e => h e.symm), if_neg h]

theorem wf_act {x : LitL} {s : S11} (ho : OkL x) (hw : Wf x s) {t : Nat} {a : ActL} (ha : actAt x t (pcOf s t) = some a) : Wf x (actS s t a) := by
 obtain ⟨acts, e1, e2⟩ := actAt_some ha
 obtain ⟨ht, e1⟩ := List.getElem?_eq_some_iff.1 e1
 obtain ⟨hk, e2⟩ := List.getElem?_eq_some_iff.1 e2
 have hl : t < s.pcs.length := by rw [hw.lp]; exact ht
 have hr : t < s.reads.length := by rw [hw.lr]; exact ht
 have hp := hw.pn t hl ht
 have hk' : (s.pcs[t]).toNat < acts.length := by simpa [pcOf, List.getD_eq_getElem?_getD, List.getElem?_eq_getElem hl] using hk
 have hrr := hw.rl t hr hl
 refine ⟨by rw [actS_pcs, List.length_set]; exact hw.lp, ?_, by rw [actS_memory]; exact hw.lm, ?_, by rw [actS_buffers]; exact hw.lb, fun u h h' => ?_, fun u h h' => ?_⟩
 ·rcases actS_reads s t a with e | ⟨z, e⟩
  ·rw [e]; exact hw.lr
  ·rw [e, List.length_set]; exact hw.lr
 ·rw [actS_locks]
  split
  ·exact hw.lk
  ·rw [List.length_set]; exact hw.lk
 ·have hu : u < s.pcs.length := by rw [actS_pcs, List.length_set] at h; exact h
  have e : (actS s t a).pcs[u] = if t = u then s.pcs[t] + 1 else s.pcs[u] := by
   simp only [actS_pcs, List.getElem_set, List.getD_eq_getElem?_getD, List.getElem?_eq_getElem hl, Option.getD_some]
  rw [e]
  split
  ·rename_i e; subst e
   rw [e1]; omega
  ·exact hw.pn u hu h'
 ·have hu : u < s.pcs.length := by rw [actS_pcs, List.length_set] at h'; exact h'
  have e : (actS s t a).pcs[u] = if t = u then s.pcs[t] + 1 else s.pcs[u] := by
   simp only [actS_pcs, List.getElem_set, List.getD_eq_getElem?_getD, List.getElem?_eq_getElem hl, Option.getD_some]
  rw [e]
  have hur : u < s.reads.length := by rw [hw.lr, ← hw.lp]; exact hu
  have h0 := hw.rl u hur hu
  rcases actS_reads s t a with er | ⟨z, er⟩
  ·have : (actS s t a).reads[u] = s.reads[u] := by simp only [er]
   rw [this]
   split
   ·rename_i e; subst e; omega
   ·exact h0
  ·have : (actS s t a).reads[u] = if t = u then s.reads[t] ++ [z] else s.reads[u] := by
    simp only [er, List.getElem_set, List.getD_eq_getElem?_getD, List.getElem?_eq_getElem hr, Option.getD_some]
   rw [this]
   split
   ·rename_i e; subst e
    rw [List.length_append, List.length_singleton]; omega
   ·exact h0

def hasT (x : LitL) (s : S11) (t : Nat) (v : Int) : Bool := hasL ((x.thr.getD t []).take (pcOf s t)) v
structure Lk (x : LitL) (s : S11) : Prop where
 one : ∀ v t u, hasT x s t v = true → hasT x s u v = true → t = u
 iff : ∀ l : Nat, l < 2 → (s.locks.getD l 0 ≠ 0 ↔ ∃ t, hasT x s t l = true)
theorem hasT_start (x : LitL) (n nv t : Nat) (v : Int) : hasT x (startS n nv) t v = false := by
 have : pcOf (startS n nv) t = 0 := by
  simp only [pcOf, startS, List.getD_eq_getElem?_getD, List.getElem?_replicate]
  split
  ·rfl
  ·rfl
 rw [hasT, this]; rfl
theorem lk_start (x : LitL) (n nv : Nat) : Lk x (startS n nv) := by
 refine ⟨fun v t u h => absurd h (by rw [hasT_start]; decide), fun l hl => ?_⟩
 refine ⟨fun h => ?_, fun ⟨t, h⟩ => by rw [hasT_start] at h; cases h⟩
 exfalso
 apply h
 rcases (by omega : l = 0 ∨ l = 1) with rfl | rfl
 ·rfl
 ·rfl
theorem hasT_act {x : LitL} {s : S11} (hw : Wf x s) {t : Nat} {a : ActL} (ha : actAt x t (pcOf s t) = some a) (u : Nat) (v : Int) : hasT x (actS s t a) u v = if u = t then lockStep v (hasT x s t v) a else hasT x s u v := by
 obtain ⟨acts, e1, e2⟩ := actAt_some ha
 obtain ⟨ht, _⟩ := List.getElem?_eq_some_iff.1 e1
 obtain ⟨hk, e2'⟩ := List.getElem?_eq_some_iff.1 e2
 unfold hasT
 rw [pcOf_act hw ht]
 split
 ·rename_i e; subst e
  have eD : x.thr.getD u [] = acts := by rw [List.getD_eq_getElem?_getD, e1]; rfl
  rw [eD, ← hasL_snoc, List.take_succ_eq_append_getElem hk, e2']
 ·rfl
theorem okFrom_at {acts : List ActL} (h : okFrom [] acts = true) : ∀ k (hk : k < acts.length), badA (acts.take k) acts[k] = false := by
 have hall : ∀ k, k ≤ acts.length → okFrom (acts.take k) (acts.drop k) = true := fun k => by
  induction k with
  | zero => intro _; exact h
  | succ k ih =>
   intro hk
   have := ih (by omega)
   cases hb : badA (acts.take k) (acts[k]'(by omega)) with
   | true => rw [okFrom_bad (by omega) hb] at this; cases this
   | false => rw [okFrom_good (by omega) hb] at this; exact this
 intro k hk
 cases hb : badA (acts.take k) acts[k] with
 | true => have := hall k (by omega); rw [okFrom_bad hk hb] at this; cases this
 | false => rfl
theorem hasT_ok {x : LitL} {s : S11} (hf : ∀ acts ∈ x.thr, okFrom [] acts = true) {t : Nat} {a : ActL} (ha : actAt x t (pcOf s t) = some a) : (isL a && (hasT x s t a.var == (a.kind == 4))) = false := by
 obtain ⟨acts, e1, e2⟩ := actAt_some ha
 obtain ⟨hk, e2'⟩ := List.getElem?_eq_some_iff.1 e2
 have eD : x.thr.getD t [] = acts := by rw [List.getD_eq_getElem?_getD, e1]; rfl
 have := okFrom_at (hf acts (List.mem_of_getElem? e1)) (pcOf s t) hk
 rw [e2'] at this
 unfold hasT
 rw [eD]
 exact this
theorem lk_act {x : LitL} {s : S11} (ho : OkL x) (hf : ∀ acts ∈ x.thr, okFrom [] acts = true) (hw : Wf x s) (hl : Lk x s) {t : Nat} {a : ActL} (ha : actAt x t (pcOf s t) = some a) (hc : canA s a = true) : Lk x (actS s t a) := by
 have hT := hasT_act hw ha
 have hok := hasT_ok hf ha
 obtain ⟨acts, e1, e2⟩ := actAt_some ha
 have hv := actC_var (ho.act acts (List.mem_of_getElem? e1) a (List.mem_of_getElem? e2))
 have hk1 := ho.k1
 rcases hv.2.2 with h | h | h | h | h
 ·have e0 : ∀ u v, hasT x (actS s t a) u v = hasT x s u v := fun u v => by
   rw [hT]; split
   ·rename_i e; subst e; simp [lockStep, isL, h]
   ·rfl
  have eL : (actS s t a).locks = s.locks := by rw [actS_locks]; simp [h]
  exact ⟨fun v t u => by rw [e0, e0]; exact hl.one v t u, fun l hl' => by rw [eL]; simp only [e0]; exact hl.iff l hl'⟩
 ·have e0 : ∀ u v, hasT x (actS s t a) u v = hasT x s u v := fun u v => by
   rw [hT]; split
   ·rename_i e; subst e; simp [lockStep, isL, h]
   ·rfl
  have eL : (actS s t a).locks = s.locks := by rw [actS_locks]; simp [h]
  exact ⟨fun v t u => by rw [e0, e0]; exact hl.one v t u, fun l hl' => by rw [eL]; simp only [e0]; exact hl.iff l hl'⟩
 ·have e0 : ∀ u v, hasT x (actS s t a) u v = hasT x s u v := fun u v => by
   rw [hT]; split
   ·rename_i e; subst e; simp [lockStep, isL, h]
   ·rfl
  have eL : (actS s t a).locks = s.locks := by rw [actS_locks]; simp [h]
  exact ⟨fun v t u => by rw [e0, e0]; exact hl.one v t u, fun l hl' => by rw [eL]; simp only [e0]; exact hl.iff l hl'⟩
 ·have hv4 := hv.2.1 (.inl h)
  obtain ⟨n, hn⟩ : ∃ n : Nat, a.var = n := ⟨a.var.toNat, by omega⟩
  have hn2 : n < 2 := by omega
  have hfree : s.locks.getD n 0 = 0 := by
   have : a.var.toNat = n := by omega
   simpa [canA, h, this] using hc
  have hno : ∀ u, hasT x s u n = false := fun u => by
   cases hh : hasT x s u n with
   | false => rfl
   | true => exact absurd hfree ((hl.iff n hn2).2 ⟨u, hh⟩)
  have e0 : ∀ u v, hasT x (actS s t a) u v = if v = n then decide (u = t) else hasT x s u v := fun u v => by
   rw [hT]
   by_cases hu : u = t
   ·subst hu
    by_cases hvn : v = n
    ·simp [lockStep, isL, h, hn, hvn]
    ·have hvn' : ¬(n : Int) = v := fun e => hvn e.symm
     simp [lockStep, isL, h, hn, hvn, hvn']
   ·by_cases hvn : v = n
    ·simp [hu, hvn, hno]
    ·simp [hu, hvn]
  have eL : (actS s t a).locks = s.locks.set n ((t : Int) + 1) := by
   have : a.var.toNat = n := by omega
   rw [actS_locks]; simp [h, this]
  refine ⟨fun v t' u' h1 h2 => ?_, fun l hl' => ?_⟩
  ·rw [e0] at h1 h2
   by_cases hvn : v = n
   ·rw [if_pos hvn] at h1 h2
    rw [of_decide_eq_true h1, of_decide_eq_true h2]
   ·rw [if_neg hvn] at h1 h2
    exact hl.one v t' u' h1 h2
  ·rw [eL]
   have hlk := hw.lk
   by_cases hln : l = n
   ·subst hln
    refine ⟨fun _ => ⟨t, by rw [e0]; simp⟩, fun _ => ?_⟩
    rw [List.getD_eq_getElem?_getD, List.getElem?_set_self (by omega)]
    simp only [Option.getD_some]; omega
   ·have : (l : Int) ≠ n := by omega
    simp only [e0, if_neg this]
    rw [List.getD_eq_getElem?_getD, List.getElem?_set_ne (fun e => hln e.symm), ← List.getD_eq_getElem?_getD]
    exact hl.iff l hl'
 ·have hv4 := hv.2.1 (.inr h)
  obtain ⟨n, hn⟩ : ∃ n : Nat, a.var = n := ⟨a.var.toNat, by omega⟩
  have hn2 : n < 2 := by omega
  have hmine : hasT x s t n = true := by
   simpa [isL, h, hn] using hok
  have e0 : ∀ u v, hasT x (actS s t a) u v = if v = n then false else hasT x s u v := fun u v => by
   rw [hT]
   by_cases hu : u = t
   ·subst hu
    by_cases hvn : v = n
    ·simp [lockStep, isL, h, hn, hvn]
    ·have hvn' : ¬(n : Int) = v := fun e => hvn e.symm
     simp [lockStep, isL, h, hn, hvn, hvn']
   ·by_cases hvn : v = n
    ·subst hvn
     rw [if_neg hu, if_pos rfl]
     cases hh : hasT x s u n with
     | false => rfl
     | true => exact absurd (hl.one _ _ _ hh hmine) hu
    ·simp [hu, hvn]
  have eL : (actS s t a).locks = s.locks.set n 0 := by
   have : a.var.toNat = n := by omega
   rw [actS_locks]; simp [h, this]
  refine ⟨fun v t' u' h1 h2 => ?_, fun l hl' => ?_⟩
  ·rw [e0] at h1 h2
   by_cases hvn : v = n
   ·rw [if_pos hvn] at h1; cases h1
   ·rw [if_neg hvn] at h1 h2
    exact hl.one v t' u' h1 h2
  ·rw [eL]
   have hlk := hw.lk
   by_cases hln : l = n
   ·subst hln
    refine ⟨fun hh => ?_, fun ⟨u, hh⟩ => by rw [e0] at hh; simp at hh⟩
    exfalso; apply hh
    rw [List.getD_eq_getElem?_getD, List.getElem?_set_self (by omega)]; rfl
   ·have : (l : Int) ≠ n := by omega
    simp only [e0, if_neg this]
    rw [List.getD_eq_getElem?_getD, List.getElem?_set_ne (fun e => hln e.symm), ← List.getD_eq_getElem?_getD]
    exact hl.iff l hl'

def freeP (x : LitL) (s : S11) (v : Int) : Bool := (List.range x.thr.length).all fun u => !hasT x s u v
theorem hasT_out {x : LitL} {s : S11} {t : Nat} {v : Int} (h : x.thr.length ≤ t) : hasT x s t v = false := by
 unfold hasT
 rw [List.getD_eq_getElem?_getD, List.getElem?_eq_none h, Option.getD_none, List.take_nil]
 rfl
theorem can_free {x : LitL} {s : S11} (ho : OkL x) (hl : Lk x s) {t : Nat} {a : ActL} (ha : actAt x t (pcOf s t) = some a) : canA s a = (!(a.kind == 4) || freeP x s a.var) := by
 obtain ⟨acts, e1, e2⟩ := actAt_some ha
 have hv := actC_var (ho.act acts (List.mem_of_getElem? e1) a (List.mem_of_getElem? e2))
 have hk1 := ho.k1
 unfold canA
 by_cases h : a.kind = 4
 ·have hv4 := hv.2.1 (.inl h)
  obtain ⟨n, hn⟩ : ∃ n : Nat, a.var = n := ⟨a.var.toNat, by omega⟩
  have hn' : a.var.toNat = n := by omega
  have hi := hl.iff n (by omega)
  simp only [h, beq_self_eq_true, Bool.true_and, Bool.not_true, Bool.false_or, hn']
  rw [Bool.eq_iff_iff, hn]
  simp only [bne_eq_false_iff_eq, freeP, List.all_eq_true, List.mem_range, Bool.not_eq_eq_eq_not, Bool.not_true]
  constructor
  ·intro h0 u hu
   cases hh : hasT x s u n with
   | false => rfl
   | true => exact absurd h0 (hi.2 ⟨u, hh⟩)
  ·intro hall
   refine Classical.byContradiction fun hne => ?_
   obtain ⟨u, hu⟩ := hi.1 hne
   by_cases hlt : u < x.thr.length
   ·rw [hall u hlt] at hu; cases hu
   ·rw [hasT_out (by omega)] at hu; cases hu
 ·have : (a.kind == 4) = false := beq_false_of_ne h
  simp [this]
def pickS (x : LitL) (s : S11) (z : Int) : Option ActL := if 0 ≤ z ∧ z < x.thr.length then (match actAt x z.toNat (pcOf s z.toNat) with
 | none => none
 | some a => if canA s a = true then some a else none) else none
def runS (x : LitL) : S11 → List Int → List DoneL
 | _, [] => []
 | s, z :: zs => match pickS x s z with
  | none => runS x s zs
  | some a => ⟨z.toNat, pcOf s z.toNat⟩ :: runS x (actS s z.toNat a) zs
theorem pickS_some {x : LitL} {s : S11} {z : Int} {a : ActL} (h : pickS x s z = some a) : (0 ≤ z ∧ z < x.thr.length) ∧ actAt x z.toNat (pcOf s z.toNat) = some a ∧ canA s a = true := by
 unfold pickS at h
 split at h
 ·rename_i h1
  split at h
  ·cases h
  ·rename_i b hb
   split at h
   ·rename_i hc
    cases h
    exact ⟨h1, hb, hc⟩
   ·cases h
 ·cases h
theorem pickS_none {x : LitL} {s : S11} {z : Int} : pickS x s z = none ↔ ¬(0 ≤ z ∧ z < x.thr.length ∧ canS x s z.toNat = true) := by
 unfold pickS canS
 split
 ·rename_i h1
  cases actAt x z.toNat (pcOf s z.toNat) with
  | none => simp [canM]
  | some b =>
   simp only [canM]
   split
   ·rename_i hc; simp [hc, h1.1, h1.2]
   ·rename_i hc; simp [hc]
 ·rename_i h1
  refine ⟨fun _ h => h1 ⟨h.1, h.2.1⟩, fun _ => rfl⟩
theorem runS_in {x : LitL} (ho : OkL x) : ∀ (zs : List Int) (s : S11), Wf x s → ∀ d ∈ runS x s zs, d.t < x.thr.length ∧ ∃ a, actAt x d.t d.k = some a
 | [], s, _, d, hd => by cases hd
 | z :: zs, s, hw, d, hd => by
  rw [runS] at hd
  cases hp : pickS x s z with
  | none => rw [hp] at hd; exact runS_in ho zs s hw d hd
  | some a =>
   rw [hp] at hd
   obtain ⟨hz, ha, hc⟩ := pickS_some hp
   rcases List.mem_cons.1 hd with rfl | hd
   ·exact ⟨by simp only; omega, a, ha⟩
   ·exact runS_in ho zs _ (wf_act ho hw ha) d hd
end Go.Proofs.YtknbchheoloaoaaGreat

/- What is ahead of what, row by row, and the races of a run: in the specification's way and in the program's, the same. -/
namespace Go.Proofs.YtknbchheoloaoaaGreat
set_option linter.unusedVariables false

open Classical in
noncomputable def pthB (E : Nat → Nat → Bool) (i k : Nat) : Bool := decide (Pth E i k)
theorem pthB_iff {E : Nat → Nat → Bool} {i k : Nat} : pthB E i k = true ↔ Pth E i k := by simp [pthB]
open Classical in
noncomputable def rowB (E : Nat → Nat → Bool) (i k j : Nat) : Bool := decide (∃ m, i < m ∧ m < k ∧ E i m = true ∧ (j = m ∨ Pth E m j))
theorem rowB_iff {E : Nat → Nat → Bool} {i k j : Nat} : rowB E i k j = true ↔ ∃ m, i < m ∧ m < k ∧ E i m = true ∧ (j = m ∨ Pth E m j) := by simp [rowB]
theorem rowB_first (E : Nat → Nat → Bool) (i j : Nat) : rowB E i (i + 1) j = false := by
 cases h : rowB E i (i + 1) j with
 | false => rfl
 | true => obtain ⟨m, h1, h2, _⟩ := rowB_iff.1 h; omega
theorem rowB_no {E : Nat → Nat → Bool} {i k j : Nat} (h : E i k = false) : rowB E i (k + 1) j = rowB E i k j := by
 rw [Bool.eq_iff_iff, rowB_iff, rowB_iff]
 constructor
 ·rintro ⟨m, h1, h2, h3, h4⟩
  have : m ≠ k := fun e => by rw [e, h] at h3; cases h3
  exact ⟨m, h1, by omega, h3, h4⟩
 ·rintro ⟨m, h1, h2, h3, h4⟩
  exact ⟨m, h1, by omega, h3, h4⟩
theorem rowB_yes {E : Nat → Nat → Bool} {i k j : Nat} (hik : i < k) (h : E i k = true) : rowB E i (k + 1) j = (j == k || (rowB E i k j || pthB E k j)) := by
 rw [Bool.eq_iff_iff, rowB_iff]
 simp only [Bool.or_eq_true, beq_iff_eq, rowB_iff, pthB_iff]
 constructor
 ·rintro ⟨m, h1, h2, h3, h4⟩
  by_cases e : m = k
  ·subst e
   rcases h4 with h4 | h4
   ·exact .inl h4
   ·exact .inr (.inr h4)
  ·exact .inr (.inl ⟨m, h1, by omega, h3, h4⟩)
 ·rintro (e | ⟨m, h1, h2, h3, h4⟩ | hp)
  ·exact ⟨k, hik, by omega, h, .inl e⟩
  ·exact ⟨m, h1, by omega, h3, h4⟩
  ·exact ⟨k, hik, by omega, h, .inr hp⟩
theorem rowB_last {E : Nat → Nat → Bool} {i n j : Nat} (hj : j < n) : rowB E i n j = pthB E i j := by
 rw [Bool.eq_iff_iff, rowB_iff, pthB_iff]
 constructor
 ·rintro ⟨m, h1, h2, h3, rfl | hp⟩
  ·exact .one _ _ h1 h3
  ·exact .cons _ m _ h1 h3 hp
 ·intro hp
  have hl := hp.lt
  rcases hp.left with e | ⟨m, h1, h2, e, hp⟩
  ·exact ⟨j, hl, hj, e, .inl rfl⟩
  ·exact ⟨m, h1, by omega, e, .inr hp⟩
open Classical in
noncomputable def colB (E : Nat → Nat → Bool) (k f j : Nat) : Bool := decide (∃ m, m < f ∧ E m k = true ∧ (j = m ∨ Pth E j m))
theorem colB_iff {E : Nat → Nat → Bool} {k f j : Nat} : colB E k f j = true ↔ ∃ m, m < f ∧ E m k = true ∧ (j = m ∨ Pth E j m) := by simp [colB]
theorem colB_first (E : Nat → Nat → Bool) (k j : Nat) : colB E k 0 j = false := by
 cases h : colB E k 0 j with
 | false => rfl
 | true => obtain ⟨m, h1, _⟩ := colB_iff.1 h; omega
theorem colB_no {E : Nat → Nat → Bool} {k f j : Nat} (h : E f k = false) : colB E k (f + 1) j = colB E k f j := by
 rw [Bool.eq_iff_iff, colB_iff, colB_iff]
 constructor
 ·rintro ⟨m, h2, h3, h4⟩
  have : m ≠ f := fun e => by rw [e, h] at h3; cases h3
  exact ⟨m, by omega, h3, h4⟩
 ·rintro ⟨m, h2, h3, h4⟩
  exact ⟨m, by omega, h3, h4⟩
theorem colB_yes {E : Nat → Nat → Bool} {k f j : Nat} (h : E f k = true) : colB E k (f + 1) j = (colB E k f j || (pthB E j f || j == f)) := by
 rw [Bool.eq_iff_iff, colB_iff]
 simp only [Bool.or_eq_true, beq_iff_eq, colB_iff, pthB_iff]
 constructor
 ·rintro ⟨m, h2, h3, h4⟩
  by_cases e : m = f
  ·subst e
   rcases h4 with h4 | h4
   ·exact .inr (.inr h4)
   ·exact .inr (.inl h4)
  ·exact .inl ⟨m, by omega, h3, h4⟩
 ·rintro (⟨m, h2, h3, h4⟩ | hp | e)
  ·exact ⟨m, by omega, h3, h4⟩
  ·exact ⟨f, by omega, h, .inr hp⟩
  ·exact ⟨f, by omega, h, .inl e⟩
theorem colB_last {E : Nat → Nat → Bool} {k j : Nat} : colB E k k j = pthB E j k := by
 rw [Bool.eq_iff_iff, colB_iff, pthB_iff]
 constructor
 ·rintro ⟨m, h1, h3, rfl | hp⟩
  ·exact .one _ _ h1 h3
  ·exact hp.snoc h1 h3
 ·intro hp
  have hl := hp.lt
  rcases hp.right with e | ⟨m, h1, h2, e, hp⟩
  ·exact ⟨j, hl, e, .inl rfl⟩
  ·exact ⟨m, h2, e, .inr hp⟩

theorem runS_ge {x : LitL} (ho : OkL x) : ∀ (zs : List Int) (s : S11), Wf x s → ∀ d ∈ runS x s zs, pcOf s d.t ≤ d.k
 | [], s, _, d, hd => by cases hd
 | z :: zs, s, hw, d, hd => by
  rw [runS] at hd
  cases hp : pickS x s z with
  | none => rw [hp] at hd; exact runS_ge ho zs s hw d hd
  | some a =>
   rw [hp] at hd
   obtain ⟨hz, ha, hc⟩ := pickS_some hp
   rcases List.mem_cons.1 hd with rfl | hd
   ·exact Nat.le_refl _
   ·have := runS_ge ho zs _ (wf_act ho hw ha) d hd
    rw [pcOf_act hw (by omega)] at this
    split at this
    ·rename_i e; rw [e]; omega
    ·exact this
theorem runS_nodup {x : LitL} (ho : OkL x) : ∀ (zs : List Int) (s : S11), Wf x s → (runS x s zs).Nodup
 | [], s, _ => List.nodup_nil
 | z :: zs, s, hw => by
  rw [runS]
  cases hp : pickS x s z with
  | none => exact runS_nodup ho zs s hw
  | some a =>
   obtain ⟨hz, ha, hc⟩ := pickS_some hp
   have hw' := wf_act ho hw ha
   refine List.nodup_cons.2 ⟨fun hm => ?_, runS_nodup ho zs _ hw'⟩
   have := runS_ge ho zs _ hw' _ hm
   rw [pcOf_act hw (by omega)] at this
   simp only [if_true] at this
   omega

def actOf (x : LitL) (d : DoneL) : ActL := (actAt x d.t d.k).getD ⟨0, 0, 0⟩
def edgeE (x : LitL) (ds : List DoneL) (i k : Nat) : Bool := match ds[i]?, ds[k]? with
 | some p, some q => edgeB x.vol p q (actOf x p) (actOf x q)
 | _, _ => false
def raceD (p q : DoneL) : RaceL := mkRace p.t p.k q.t q.k
def raceC (x : LitL) (p q : DoneL) : Bool := p.t != q.t && conflictB x.vol (actOf x p) (actOf x q)
noncomputable def raceB (x : LitL) (ds : List DoneL) (i k : Nat) : Bool := match ds[i]?, ds[k]? with
 | some p, some q => raceC x p q && !pthB (edgeE x ds) i k
 | _, _ => false
noncomputable def raceAt (x : LitL) (ds : List DoneL) (i k : Nat) : List RaceL := match ds[i]?, ds[k]? with
 | some p, some q => if (raceC x p q && !pthB (edgeE x ds) i k) = true then [raceD p q] else []
 | _, _ => []
noncomputable def rowRaces (x : LitL) (ds : List DoneL) (i : Nat) (k : Nat) : List RaceL := (List.range' (i + 1) (k - (i + 1))).flatMap (raceAt x ds i)
noncomputable def specRaces (x : LitL) (ds : List DoneL) (i : Nat) : List RaceL := (List.range i).flatMap fun i => rowRaces x ds i ds.length
noncomputable def colRaces (x : LitL) (ds : List DoneL) (k : Nat) (i : Nat) : List RaceL := (List.range i).flatMap fun i => raceAt x ds i k
noncomputable def implRaces (x : LitL) (ds : List DoneL) (k : Nat) : List RaceL := (List.range k).flatMap fun k => colRaces x ds k k
theorem mem_specRaces {x : LitL} {ds : List DoneL} {r : RaceL} : r ∈ specRaces x ds ds.length ↔ ∃ i k, i < k ∧ k < ds.length ∧ r ∈ raceAt x ds i k := by
 simp only [specRaces, rowRaces, List.mem_flatMap, List.mem_range, List.mem_range'_1]
 constructor
 ·rintro ⟨i, hi, k, hk, h⟩
  exact ⟨i, k, by omega, by omega, h⟩
 ·rintro ⟨i, k, h1, h2, h⟩
  exact ⟨i, by omega, k, by omega, h⟩
theorem mem_implRaces {x : LitL} {ds : List DoneL} {r : RaceL} : r ∈ implRaces x ds ds.length ↔ ∃ i k, i < k ∧ k < ds.length ∧ r ∈ raceAt x ds i k := by
 simp only [implRaces, colRaces, List.mem_flatMap, List.mem_range]
 constructor
 ·rintro ⟨k, hk, i, hi, h⟩
  exact ⟨i, k, by omega, by omega, h⟩
 ·rintro ⟨i, k, h1, h2, h⟩
  exact ⟨k, by omega, i, by omega, h⟩
theorem raceAt_mem {x : LitL} {ds : List DoneL} {i k : Nat} {r : RaceL} (h : r ∈ raceAt x ds i k) : ∃ p q, ds[i]? = some p ∧ ds[k]? = some q ∧ r = raceD p q ∧ p.t ≠ q.t := by
 unfold raceAt at h
 split at h
 ·rename_i p q h1 h2
  split at h
  ·rename_i hc
   refine ⟨p, q, h1, h2, List.mem_singleton.1 h, ?_⟩
   simp only [raceC, Bool.and_eq_true, bne_iff_ne] at hc
   exact hc.1.1
  ·cases h
 ·cases h
theorem raceD_inj {p q p' q' : DoneL} (h1 : p.t ≠ q.t) (h2 : p'.t ≠ q'.t) (h : raceD p q = raceD p' q') : (p = p' ∧ q = q') ∨ (p = q' ∧ q = p') := by
 obtain ⟨pt, pk⟩ := p; obtain ⟨qt, qk⟩ := q; obtain ⟨pt', pk'⟩ := p'; obtain ⟨qt', qk'⟩ := q'
 simp only [raceD, mkRace] at h h1 h2
 split at h <;> split at h <;> simp only [RaceL.mk.injEq] at h <;> simp only [DoneL.mk.injEq] <;> omega
theorem raceAt_inj {x : LitL} {ds : List DoneL} (hn : ds.Nodup) {i k i' k' : Nat} {r : RaceL} (hl : i < k) (hl' : i' < k') (h : r ∈ raceAt x ds i k) (h' : r ∈ raceAt x ds i' k') : i = i' ∧ k = k' := by
 obtain ⟨p, q, e1, e2, rfl, ht⟩ := raceAt_mem h
 obtain ⟨p', q', e1', e2', er, ht'⟩ := raceAt_mem h'
 have key : ∀ {a b : Nat} {d : DoneL}, ds[a]? = some d → ds[b]? = some d → a = b := fun {a b d} h1 h2 => by
  obtain ⟨ha, h1⟩ := List.getElem?_eq_some_iff.1 h1
  obtain ⟨hb, h2⟩ := List.getElem?_eq_some_iff.1 h2
  rcases Nat.lt_trichotomy a b with h | h | h
  ·exact absurd (h1.trans h2.symm) (List.pairwise_iff_getElem.1 hn a b ha hb h)
  ·exact h
  ·exact absurd (h2.trans h1.symm) (List.pairwise_iff_getElem.1 hn b a hb ha h)
 rcases raceD_inj ht ht' er with ⟨a, b⟩ | ⟨a, b⟩
 ·subst a; subst b
  exact ⟨key e1 e1', key e2 e2'⟩
 ·subst a; subst b
  have := key e1 e2'
  have := key e2 e1'
  omega
theorem raceAt_nodup (x : LitL) (ds : List DoneL) (i k : Nat) : (raceAt x ds i k).Nodup := by
 unfold raceAt
 split
 ·split
  ·simp
  ·exact List.nodup_nil
 ·exact List.nodup_nil
theorem nodup_flatMap_range {f : Nat → List RaceL} (n : Nat) (h1 : ∀ i, i < n → (f i).Nodup) (h2 : ∀ i j, i < j → j < n → ∀ r ∈ f i, r ∉ f j) : ((List.range n).flatMap f).Nodup := by
 induction n with
 | zero => exact List.nodup_nil
 | succ n ih =>
  rw [List.range_succ, List.flatMap_append, List.flatMap_singleton]
  refine List.nodup_append.2 ⟨ih (fun i hi => h1 i (by omega)) (fun i j h h' => h2 i j h (by omega)), h1 n (by omega), fun a ha b hb e => ?_⟩
  subst e
  obtain ⟨i, hi, ha⟩ := List.mem_flatMap.1 ha
  exact h2 i n (List.mem_range.1 hi) (by omega) a ha hb
theorem implRaces_nodup {x : LitL} {ds : List DoneL} (hn : ds.Nodup) : (implRaces x ds ds.length).Nodup := by
 refine nodup_flatMap_range _ (fun k hk => ?_) (fun k k' hk hk' r hr hr' => ?_)
 ·refine nodup_flatMap_range _ (fun i hi => raceAt_nodup x ds i k) (fun i i' hi hi' r hr hr' => ?_)
  have := (raceAt_inj hn (by omega) hi' hr hr').1
  omega
 ·obtain ⟨i, hi, hr⟩ := List.mem_flatMap.1 hr
  obtain ⟨i', hi', hr'⟩ := List.mem_flatMap.1 hr'
  have := (raceAt_inj hn (List.mem_range.1 hi) (List.mem_range.1 hi') hr hr').2
  omega
theorem races_eq {x : LitL} {ds : List DoneL} (hn : ds.Nodup) {out : List RaceL} (hp : out.Perm (implRaces x ds ds.length)) (hs : out.Pairwise fun r q => lessR q r = false) : out = (specRaces x ds ds.length).foldl insR [] := by
 have hno : out.Nodup := hp.nodup_iff.2 (implRaces_nodup hn)
 have hstrict : SortedR out := by
  refine (hs.and hno).imp fun {r q} h => ?_
  exact lessR_total h.1 (fun e => h.2 e.symm)
 obtain ⟨h1, h2⟩ := foldIns (specRaces x ds ds.length) [] List.Pairwise.nil
 refine sorted_unique hstrict h1 fun p => ?_
 rw [h2 p, hp.mem_iff, mem_implRaces, mem_specRaces]
 simp
end Go.Proofs.YtknbchheoloaoaaGreat
