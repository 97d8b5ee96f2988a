/- A cycle at rest leaves what is reached, and nothing else: the plain theorem. -/
import Derived.Test.YtchcdlelaklnnaaMkP
namespace Go.Proofs.Ytchcdlelaklnnaa
set_option linter.unusedVariables false
/-- The same objects with the same fields. -/
def SameF (s t : StM) : Prop := (∀ y, (getM t.obs y).map ObM.flds = (getM s.obs y).map ObM.flds) ∧ t.roots = s.roots
theorem SameF.refl (s : StM) : SameF s s := ⟨fun _ => rfl, rfl⟩
theorem SameF.symm {s t : StM} (h : SameF s t) : SameF t s := ⟨fun y => (h.1 y).symm, h.2.symm⟩
theorem SameF.trans {s t u : StM} (h : SameF s t) (k : SameF t u) : SameF s u := ⟨fun y => (k.1 y).trans (h.1 y), k.2.trans h.2⟩
theorem SameF.get {s t : StM} (h : SameF s t) {z : Int} {o : ObM} (ho : getM s.obs z = some o) : ∃ o', getM t.obs z = some o' ∧ o'.flds = o.flds := by
  have h1 := h.1 z
  rw [ho] at h1
  cases e : getM t.obs z with
  | none => rw [e] at h1; cases h1
  | some o' => rw [e] at h1; exact ⟨o', rfl, by simpa using h1⟩
theorem SameF.reach {s t : StM} (h : SameF s t) {z : Int} (hz : ReachM s z) : ReachM t z := by
  induction hz with
  | root h1 h2 =>
    obtain ⟨o, a, _⟩ := h.get h2
    exact .root (by rw [h.2]; exact h1) a
  | step _ h2 h3 h4 ih =>
    obtain ⟨x, a, b⟩ := h.get h2
    obtain ⟨o, c, _⟩ := h.get h4
    exact .step ih a (by rw [b]; exact h3) c
theorem SameF.of_sh {s t : StM} (h : ShM s t) (hr : t.roots = s.roots) : SameF s t := ⟨fun y => by
  cases e : getM s.obs y with
  | none =>
    cases e2 : getM t.obs y with
    | none => rfl
    | some o =>
      obtain ⟨x, a, _⟩ := h.of y o e2
      rw [e] at a; cases a
  | some o =>
    obtain ⟨x, a, b, _⟩ := h.to y o e
    rw [a]
    simp [b], hr⟩
/-- What is not white is reached. -/
def RBM (s : StM) : Prop := ∀ z o, getM s.obs z = some o → o.col ≠ 1 → ReachM s z
theorem RBM.shade {s : StM} (h : RBM s) {z : Int} (hz : ∀ o, getM s.obs z = some o → ReachM s z) : RBM (s.shade z) := by
  have hsf : SameF s (s.shade z) := SameF.of_sh (ShM.shade s z) (shade_frame s z).2.1
  intro y o ho hc
  refine hsf.reach ?_
  rcases shade_cases s z with ⟨x, hx, hxc⟩ | hn
  · rw [shade_some hx hxc] at ho
    have ho : getM (setCol s.obs z 2) y = some o := ho
    rw [getM_set (getM_le hx).1] at ho
    by_cases e : y = z
    · subst e
      exact hz x hx
    · rw [if_neg e] at ho
      exact h y o ho hc
  · rw [shade_none hn] at ho
    exact h y o ho hc
theorem RBM.shades : ∀ (zs : List Int) {s : StM}, RBM s → (∀ z ∈ zs, ∀ o, getM s.obs z = some o → ReachM s z) → RBM (s.shades zs)
  | [], s, h, _ => h
  | z :: zs, s, h, hz => by
    rw [shades_cons]
    have hsf : SameF s (s.shade z) := SameF.of_sh (ShM.shade s z) (shade_frame s z).2.1
    refine RBM.shades zs (h.shade (hz z (by simp))) fun y hy o ho => ?_
    obtain ⟨x, hx, _⟩ := hsf.symm.get ho
    exact hsf.reach (hz y (by simp [hy]) x hx)
theorem shades_same (s : StM) (zs : List Int) : SameF s (s.shades zs) := SameF.of_sh (ShM.shades s zs) (shades_frame s zs).2.1
theorem RBM.step1 {s : StM} (hi : InvM s) (h : RBM s) : RBM s.step1 ∧ SameF s s.step1 := by
  cases e : s.row with
  | nil => unfold StM.step1; rw [e]; exact ⟨h, SameF.refl s⟩
  | cons z r =>
    obtain ⟨oz, hoz, hcz⟩ := (hi.gr z).1 (by rw [e]; simp)
    have hrz : ReachM s z := h z oz hoz (by omega)
    have h0 : SameF s ({ s with row := r } : StM) := ⟨fun _ => rfl, rfl⟩
    have hb0 : RBM ({ s with row := r } : StM) := fun y o ho hc => h0.reach (h y o ho hc)
    have hb1 : RBM (({ s with row := r } : StM).shades (fldsM s.obs z)) := RBM.shades _ hb0 fun y hy o ho => h0.reach (.step hrz hoz (by rw [fldsM_some hoz] at hy; exact hy) ho)
    have hs1 : SameF s (({ s with row := r } : StM).shades (fldsM s.obs z)) := h0.trans (shades_same _ _)
    rw [step1_cons e]
    generalize ({ s with row := r } : StM).shades (fldsM s.obs z) = t at hb1 hs1
    have hz1 := (getM_le hoz).1
    have hs2 : SameF t ({ t with obs := setCol t.obs z 3 } : StM) := ⟨fun y => by
      show (getM (setCol t.obs z 3) y).map _ = _
      rw [getM_set hz1]
      by_cases q : y = z
      · rw [if_pos q]
        cases getM t.obs y <;> rfl
      · rw [if_neg q], rfl⟩
    refine ⟨fun y o ho hc => hs2.reach ?_, hs1.trans hs2⟩
    have ho : getM (setCol t.obs z 3) y = some o := ho
    rw [getM_set hz1] at ho
    by_cases q : y = z
    · subst q
      exact hs1.reach hrz
    · rw [if_neg q] at ho
      exact hb1 y o ho hc
theorem RBM.steps : ∀ (n : Nat) {s : StM}, InvM s → RBM s → RBM (StM.steps n s) ∧ SameF s (StM.steps n s)
  | 0, s, _, h => ⟨h, SameF.refl s⟩
  | n + 1, s, hi, h => by
    unfold StM.steps
    cases s.row with
    | nil => exact ⟨h, SameF.refl s⟩
    | cons y r =>
      obtain ⟨h1, h2⟩ := h.step1 hi
      obtain ⟨h3, h4⟩ := RBM.steps n hi.step1 h1
      exact ⟨h3, h2.trans h4⟩
theorem RBM.begin (s : StM) : RBM s.begin := by
  unfold StM.begin
  refine RBM.shades _ (fun z o ho hc => ?_) fun z hz o ho => .root hz ho
  have ho : getM (paintM s.obs 1) z = some o := ho
  rw [getM_paint] at ho
  cases e : getM s.obs z with
  | none => rw [e] at ho; cases ho
  | some x =>
    rw [e] at ho
    simp at ho
    subst ho
    exact absurd rfl hc
theorem RBM.drained {s : StM} (hi : InvM s) (h : RBM s) : RBM s.drained ∧ SameF s s.drained := by
  unfold StM.drained
  have h1 : RBM (if s.mode = 2 then s.shades s.roots else s) ∧ SameF s (if s.mode = 2 then s.shades s.roots else s) := by
    split
    · exact ⟨RBM.shades _ h fun z hz o ho => .root hz ho, shades_same _ _⟩
    · exact ⟨h, SameF.refl s⟩
  obtain ⟨h2, h3⟩ := RBM.steps 400 hi.pre h1.1
  exact ⟨h2, h1.2.trans h3⟩
/-- What a cycle leaves that began at rest is reached. -/
theorem keep_all {s : StM} (h : GoodM s) (hc : s.cyc = false) {z : Int} {o : ObM} (ho : getM s.begin.fin.obs z = some o) : ReachM s.begin.fin z := by
  have hg := h.begin hc
  have hcy : s.begin.cyc = true := (shades_frame _ _).2.2.1
  obtain ⟨hb, hs⟩ := (RBM.begin s).drained hg.inv
  have key : ∀ y, ReachM s.begin.drained y → ReachM s.begin.fin y := fun y hy => by
    have live : ∀ y, ReachM s.begin.drained y → ∀ x, getM s.begin.drained.obs y = some x → ∃ x', getM s.begin.fin.obs y = some x' ∧ x'.flds = x.flds := fun y hy x hx => by
      have hne := drained_dark hg.inv hg.len hcy hg.md (hg.j hcy) (hg.k hcy) (hs.symm.reach hy) x hx
      exact ⟨{ x with col := 0 }, getM_sweep.2 ⟨x, hx, hne, rfl⟩, rfl⟩
    induction hy with
    | root h1 h2 =>
      obtain ⟨x', a, _⟩ := live _ (.root h1 h2) _ h2
      exact .root h1 a
    | step h1 h2 h3 h4 ih =>
      obtain ⟨x', a, b⟩ := live _ h1 _ h2
      obtain ⟨o', c, _⟩ := live _ (.step h1 h2 h3 h4) _ h4
      exact .step ih a (by rw [b]; exact h3) c
  obtain ⟨x, hx, hne, _⟩ := getM_sweep.1 ho
  exact key z (hb z x hx hne)
/-- The ops that bring a cycle to rest and make another one. -/
def restOps (s : StM) : List OpM := (if s.cyc then [⟨8, 0, 0, 0⟩] else []) ++ [⟨6, 0, 0, 0⟩, ⟨8, 0, 0, 0⟩]
theorem do_end {s : StM} (h : s.cyc = true) : doM s ⟨8, 0, 0, 0⟩ = s.fin := by simp [doM, codeM, okM, actM, h]
theorem do_begin {s : StM} (h : s.cyc = false) : doM s ⟨6, 0, 0, 0⟩ = s.begin := by simp [doM, codeM, okM, actM, h]
theorem run_rest {s : StM} (h : GoodM s) : ∃ t, GoodM t ∧ t.cyc = false ∧ runM s (restOps s) = t.begin.fin := by
  unfold restOps
  cases hc : s.cyc with
  | false =>
    have hb : s.begin.cyc = true := (shades_frame _ _).2.2.1
    refine ⟨s, h, hc, ?_⟩
    simp only [Bool.false_eq_true, if_false, List.nil_append]
    show doM (doM s _) _ = _
    rw [do_begin hc, do_end hb]
  | true =>
    have hf : s.fin.cyc = false := rfl
    have hb : s.fin.begin.cyc = true := (shades_frame _ _).2.2.1
    refine ⟨s.fin, h.fin, hf, ?_⟩
    simp only [if_true, List.cons_append, List.nil_append]
    show doM (doM (doM s _) _) _ = _
    rw [do_end hc, do_begin hf, do_end hb]
end Go.Proofs.Ytchcdlelaklnnaa
