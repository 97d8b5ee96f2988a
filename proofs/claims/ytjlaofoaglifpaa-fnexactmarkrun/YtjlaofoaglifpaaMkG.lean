/- Marking meanwhile: no cycle takes what is reached: the plain theorem. -/
import Derived.Test.YtjlaofoaglifpaaMkR
namespace Go.Proofs.Ytjlaofoaglifpaa
set_option linter.unusedVariables false
/-- What is reached. -/
inductive ReachM (s : StM) : Int → Prop
  | root {z : Int} {o : ObM} : z ∈ s.roots → getM s.obs z = some o → ReachM s z
  | step {y z : Int} {x o : ObM} : ReachM s y → getM s.obs y = some x → z ∈ x.flds → getM s.obs z = some o → ReachM s z
/-- What leads on from something grey through white ones. -/
inductive WP (s : StM) : Int → Prop
  | grey {z : Int} {o : ObM} : getM s.obs z = some o → o.col = 2 → WP s z
  | white {y z : Int} {x o : ObM} : WP s y → getM s.obs y = some x → z ∈ x.flds → getM s.obs z = some o → o.col = 1 → WP s z
/-- With ModeStart: what is reached and white is led to from something grey. -/
def JM (s : StM) : Prop := ∀ z, ReachM s z → ∀ o, getM s.obs z = some o → o.col = 1 → WP s z
/-- With ModeStore: what is black leads to nothing white. -/
def KM (s : StM) : Prop := ∀ y x, getM s.obs y = some x → x.col = 3 → ∀ f ∈ x.flds, ∀ o, getM s.obs f = some o → o.col ≠ 1
theorem ReachM.there {s : StM} {z : Int} (h : ReachM s z) : ∃ o, getM s.obs z = some o := by
  cases h with
  | root _ h => exact ⟨_, h⟩
  | step _ _ _ h => exact ⟨_, h⟩
theorem ReachM.sh {s t : StM} (h : ShM s t) (hr : t.roots = s.roots) {z : Int} (hz : ReachM t z) : ReachM s z := by
  induction hz with
  | root h1 h2 =>
    obtain ⟨o, a, _⟩ := h.of _ _ h2
    exact .root (by rw [← hr]; exact h1) a
  | step _ h2 h3 h4 ih =>
    obtain ⟨x, a, b, _⟩ := h.of _ _ h2
    obtain ⟨o, c, _⟩ := h.of _ _ h4
    exact .step ih a (by rw [← b]; exact h3) c
theorem ReachM.hs {s t : StM} (h : ShM s t) (hr : t.roots = s.roots) {z : Int} (hz : ReachM s z) : ReachM t z := by
  induction hz with
  | root h1 h2 =>
    obtain ⟨o, a, _⟩ := h.to _ _ h2
    exact .root (by rw [hr]; exact h1) a
  | step _ h2 h3 h4 ih =>
    obtain ⟨x, a, b, _⟩ := h.to _ _ h2
    obtain ⟨o, c, _⟩ := h.to _ _ h4
    exact .step ih a (by rw [b]; exact h3) c
theorem WP.sh {s t : StM} (h : ShM s t) {z : Int} (hz : WP s z) : WP t z := by
  induction hz with
  | grey h1 h2 =>
    obtain ⟨o, a, _, c⟩ := h.to _ _ h1
    exact .grey a (by rcases c with c | c <;> omega)
  | white _ h2 h3 h4 h5 ih =>
    obtain ⟨x, a, b, _⟩ := h.to _ _ h2
    obtain ⟨o, c, _, d⟩ := h.to _ _ h4
    rcases d with d | d
    · exact .white ih a (by rw [b]; exact h3) c (by omega)
    · exact .grey c d.2
theorem JM.sh {s t : StM} (h : ShM s t) (hr : t.roots = s.roots) (hj : JM s) : JM t := fun z hz o ho hc => by
  obtain ⟨x, a, _, c⟩ := h.of z o ho
  exact (hj z (hz.sh h hr) x a (by rcases c with c | c <;> omega)).sh h
theorem KM.sh {s t : StM} (h : ShM s t) (hk : KM s) : KM t := fun y x hx hc f hf o ho => by
  obtain ⟨x', a, b, c⟩ := h.of y x hx
  obtain ⟨o', a', _, c'⟩ := h.of f o ho
  have := hk y x' a (by rcases c with c | c <;> omega) f (by rw [← b]; exact hf) o' a'
  rcases c' with c' | c' <;> omega
theorem fldsM_some {obs : List ObM} {z : Int} {o : ObM} (h : getM obs z = some o) : fldsM obs z = o.flds := by simp [fldsM, h]
/-- A step, seen whole. -/
theorem step1_get {s : StM} (h : InvM s) {z : Int} {r : List Int} (e : s.row = z :: r) :
    (∀ y x, getM s.obs y = some x → ∃ x', getM s.step1.obs y = some x' ∧ x'.flds = x.flds ∧ (y = z ∧ x'.col = 3 ∨ y ≠ z ∧ (x'.col = x.col ∨ x.col = 1 ∧ x'.col = 2))) ∧
    (∀ y x', getM s.step1.obs y = some x' → ∃ x, getM s.obs y = some x ∧ x'.flds = x.flds ∧ (y = z ∧ x'.col = 3 ∨ y ≠ z ∧ (x'.col = x.col ∨ x.col = 1 ∧ x'.col = 2))) ∧
    (∀ o, getM s.obs z = some o → ∀ f ∈ o.flds, ∀ x', getM s.step1.obs f = some x' → x'.col ≠ 1) ∧ s.step1.roots = s.roots ∧ s.step1.cyc = s.cyc ∧ s.step1.mode = s.mode ∧ s.step1.obs.length = s.obs.length := by
  have hsh := ShM.shades ({ s with row := r } : StM) (fldsM s.obs z)
  have hfr := shades_frame ({ s with row := r } : StM) (fldsM s.obs z)
  have hdn := shades_done ({ s with row := r } : StM) (fldsM s.obs z)
  have hme := ((h.pop e).shades (fldsM s.obs z)).me
  rw [step1_cons e]
  generalize ({ s with row := r } : StM).shades (fldsM s.obs z) = t at hsh hfr hdn hme
  obtain ⟨om, hm, hmc⟩ := hme
  have hz := (getM_le hm).1
  have g : ∀ y, getM (setCol t.obs z 3) y = if y = z then (getM t.obs y).map (fun o => { o with col := 3 }) else getM t.obs y := fun y => getM_set hz y
  refine ⟨fun y x hx => ?_, fun y x hx => ?_, fun o ho f hf x hx => ?_, hfr.2.1, hfr.2.2.1, hfr.1, by show (setCol t.obs z 3).length = _; rw [setCol_length]; exact hfr.2.2.2⟩
  · obtain ⟨x1, a, b, c⟩ := hsh.to y x hx
    show ∃ x', getM (setCol t.obs z 3) y = some x' ∧ _
    rw [g]
    by_cases q : y = z
    · rw [if_pos q, a]
      exact ⟨{ x1 with col := 3 }, rfl, b, .inl ⟨q, rfl⟩⟩
    · rw [if_neg q]
      exact ⟨x1, a, b, .inr ⟨q, c⟩⟩
  · have hx : getM (setCol t.obs z 3) y = some x := hx
    rw [g] at hx
    by_cases q : y = z
    · rw [if_pos q] at hx
      cases ht : getM t.obs y with
      | none => rw [ht] at hx; cases hx
      | some x1 =>
        rw [ht] at hx
        simp at hx
        subst hx
        obtain ⟨x0, a, b, c⟩ := hsh.of y x1 ht
        exact ⟨x0, a, b, .inl ⟨q, rfl⟩⟩
    · rw [if_neg q] at hx
      obtain ⟨x0, a, b, c⟩ := hsh.of y x hx
      exact ⟨x0, a, b, .inr ⟨q, c⟩⟩
  · have hx : getM (setCol t.obs z 3) f = some x := hx
    rw [g] at hx
    by_cases q : f = z
    · rw [if_pos q] at hx
      cases ht : getM t.obs f with
      | none => rw [ht] at hx; cases hx
      | some x1 => rw [ht] at hx; simp at hx; subst hx; simp
    · rw [if_neg q] at hx
      exact hdn f (by rw [fldsM_some ho]; exact hf) x hx
theorem JM.step1 {s : StM} (h : InvM s) (hj : JM s) : JM s.step1 := by
  cases e : s.row with
  | nil => unfold StM.step1; rw [e]; exact hj
  | cons z r =>
    obtain ⟨g1, g2, g3, g4, _⟩ := step1_get h e
    have hre : ∀ y, ReachM s.step1 y → ReachM s y := fun y hy => by
      induction hy with
      | root h1 h2 =>
        obtain ⟨o, a, _⟩ := g2 _ _ h2
        exact .root (by rw [← g4]; exact h1) a
      | step _ h2 h3 h4 ih =>
        obtain ⟨x, a, b, _⟩ := g2 _ _ h2
        obtain ⟨o, c, _⟩ := g2 _ _ h4
        exact .step ih a (by rw [← b]; exact h3) c
    have hwp : ∀ y, WP s y → y = z ∨ WP s.step1 y := fun y hy => by
      induction hy with
      | grey h1 h2 =>
        obtain ⟨o, a, _, c⟩ := g1 _ _ h1
        rcases c with ⟨q, _⟩ | ⟨q, c⟩
        · exact .inl q
        · exact .inr (.grey a (by rcases c with c | c <;> omega))
      | @white y u x o _ h2 h3 h4 h5 ih =>
        obtain ⟨o1, a, _, c⟩ := g1 _ _ h4
        rcases c with ⟨q, _⟩ | ⟨q, c⟩
        · exact .inl q
        · rcases c with c | c
          · refine .inr ?_
            rcases ih with rfl | ih
            · exact absurd (show o1.col = 1 by omega) (g3 x h2 u h3 o1 a)
            · obtain ⟨x1, a1, b1, _⟩ := g1 _ _ h2
              exact .white ih a1 (by rw [b1]; exact h3) a (by omega)
          · exact .inr (.grey a c.2)
    intro y hy o ho hc
    obtain ⟨x, a, _, c⟩ := g2 y o ho
    rcases c with ⟨q, c⟩ | ⟨q, c⟩
    · omega
    · have := hwp y (hj y (hre y hy) x a (by rcases c with c | c <;> omega))
      rcases this with q2 | w
      · exact absurd q2 q
      · exact w
theorem KM.step1 {s : StM} (h : InvM s) (hk : KM s) : KM s.step1 := by
  cases e : s.row with
  | nil => unfold StM.step1; rw [e]; exact hk
  | cons z r =>
    obtain ⟨g1, g2, g3, _⟩ := step1_get h e
    intro y x hx hc f hf o ho
    obtain ⟨x0, a, b, c⟩ := g2 y x hx
    rcases c with ⟨q, _⟩ | ⟨q, c⟩
    · subst q
      exact g3 x0 a f (by rw [← b]; exact hf) o ho
    · obtain ⟨o0, a', _, c'⟩ := g2 f o ho
      have := hk y x0 a (by rcases c with c | c <;> omega) f (by rw [← b]; exact hf) o0 a'
      rcases c' with c' | ⟨_, c'⟩
      · omega
      · rcases c' with c' | c' <;> omega
theorem JM.steps : ∀ (n : Nat) {s : StM}, InvM s → JM s → JM (StM.steps n s)
  | 0, s, h, hj => hj
  | n + 1, s, h, hj => by
    unfold StM.steps
    cases s.row with
    | nil => exact hj
    | cons z r => exact JM.steps n h.step1 (hj.step1 h)
theorem KM.steps : ∀ (n : Nat) {s : StM}, InvM s → KM s → KM (StM.steps n s)
  | 0, s, h, hj => hj
  | n + 1, s, h, hj => by
    unfold StM.steps
    cases s.row with
    | nil => exact hj
    | cons z r => exact KM.steps n h.step1 (hj.step1 h)
/-- Steps keep what is reached. -/
theorem ReachM.step1 {s : StM} (h : InvM s) {z : Int} (hz : ReachM s z) : ReachM s.step1 z := by
  cases e : s.row with
  | nil => unfold StM.step1; rw [e]; exact hz
  | cons y r =>
    obtain ⟨g1, _, _, g4, _⟩ := step1_get h e
    induction hz with
    | root h1 h2 =>
      obtain ⟨o, a, _⟩ := g1 _ _ h2
      exact .root (by rw [g4]; exact h1) a
    | step _ h2 h3 h4 ih =>
      obtain ⟨x, a, b, _⟩ := g1 _ _ h2
      obtain ⟨o, c, _⟩ := g1 _ _ h4
      exact .step ih a (by rw [b]; exact h3) c
theorem ReachM.steps : ∀ (n : Nat) {s : StM}, InvM s → ∀ {z : Int}, ReachM s z → ReachM (StM.steps n s) z
  | 0, s, h, z, hz => hz
  | n + 1, s, h, z, hz => by
    unfold StM.steps
    cases s.row with
    | nil => exact hz
    | cons y r => exact ReachM.steps n h.step1 (hz.step1 h)
theorem pre_sh (s : StM) : ShM s (if s.mode = 2 then s.shades s.roots else s) := by
  split
  · exact ShM.shades s _
  · exact ShM.refl s
/-- Behind the end of a cycle nothing white is reached. -/
theorem drained_dark {s : StM} (h : InvM s) (hl : s.obs.length ≤ 400) (hc : s.cyc = true) (hm : s.mode = 1 ∨ s.mode = 2) (hj : s.mode = 1 → JM s) (hk : s.mode = 2 → KM s) {z : Int} (hz : ReachM s z) : ∀ o, getM s.drained.obs z = some o → o.col ≠ 1 := by
  have he := h.empty hl
  have hd := h.drained
  have hng : ∀ y o, getM s.drained.obs y = some o → o.col ≠ 2 := fun y o ho q => by
    have := (hd.gr y).2 ⟨o, ho, q⟩
    rw [he] at this
    simp at this
  have hR : ReachM s.drained z := ReachM.steps 400 h.pre (hz.hs (pre_sh s) (pre_frame s).2)
  intro o ho hcol
  rcases hm with hm | hm
  · have hJ : JM s.drained := JM.steps 400 h.pre (JM.sh (pre_sh s) (pre_frame s).2 (hj hm))
    have hw := hJ z hR o ho hcol
    have : ∀ y, WP s.drained y → False := fun y hy => by
      induction hy with
      | grey h1 h2 => exact hng _ _ h1 h2
      | white _ _ _ _ _ ih => exact ih
    exact this z hw
  · have hK : KM s.drained := KM.steps 400 h.pre (KM.sh (pre_sh s) (hk hm))
    have hcy : s.drained.cyc = true := by
      have h1 := (steps_frame 400 (if s.mode = 2 then s.shades s.roots else s)).2.2.1
      have h2 : (if s.mode = 2 then s.shades s.roots else s).cyc = s.cyc := by rw [if_pos hm]; exact (shades_frame _ _).2.2.1
      exact h1.trans (h2.trans hc)
    have hro : ∀ r ∈ s.roots, ∀ o, getM s.drained.obs r = some o → o.col ≠ 1 := by
      have key : ∀ (n : Nat) (t : StM), InvM t → (∀ r ∈ s.roots, ∀ o, getM t.obs r = some o → o.col ≠ 1) → ∀ r ∈ s.roots, ∀ o, getM (StM.steps n t).obs r = some o → o.col ≠ 1 := by
        intro n
        induction n with
        | zero => exact fun t _ ht => ht
        | succ n ih =>
          intro t hi ht
          unfold StM.steps
          cases e : t.row with
          | nil => exact ht
          | cons y r =>
            refine ih t.step1 hi.step1 fun r' hr' o ho => ?_
            obtain ⟨x, a, _, c⟩ := (step1_get hi e).2.1 r' o ho
            have := ht r' hr' x a
            rcases c with ⟨_, c⟩ | ⟨_, c⟩
            · omega
            · rcases c with c | c <;> omega
      refine key 400 _ h.pre fun r hr o ho => ?_
      rw [if_pos hm] at ho
      exact shades_done s s.roots r hr o ho
    have hall : ∀ y, ReachM s.drained y → ∀ o, getM s.drained.obs y = some o → o.col = 3 := fun y hy => by
      have hdr : s.drained.roots = s.roots := (steps_frame 400 _).2.1.trans (pre_frame s).2
      induction hy with
      | @root y o1 h1 h2 =>
        intro o ho
        have a := hro y (by rw [← hdr]; exact h1) o ho
        have b := hng y o ho
        rcases hd.inn hcy y o ho with q | q | q
        · exact absurd q a
        · exact absurd q b
        · exact q
      | @step y u x o1 _ h2 h3 h4 ih =>
        intro o ho
        have a := hK y x h2 (ih x h2) u h3 o ho
        have b := hng u o ho
        rcases hd.inn hcy u o ho with q | q | q
        · exact absurd q a
        · exact absurd q b
        · exact q
    have := hall z hR o ho
    omega
theorem mem_goneM {obs : List ObM} {z : Int} : z ∈ goneM obs ↔ ∃ o, getM obs z = some o ∧ o.col = 1 := by
  unfold goneM
  simp only [List.mem_map, List.mem_filter, List.mem_range]
  constructor
  · rintro ⟨i, ⟨hi, hp⟩, rfl⟩
    rw [List.getElem?_eq_getElem hi] at hp
    simp at hp
    refine ⟨obs[i], getM_some.2 ⟨by omega, ?_, hp.1⟩, hp.2⟩
    rw [show ((i : Int) + 1).toNat - 1 = i by omega]
    exact List.getElem?_eq_getElem hi
  · rintro ⟨o, ho, hc⟩
    obtain ⟨h1, h2, h3⟩ := getM_some.1 ho
    have hi := (List.getElem?_eq_some_iff.1 h2).1
    refine ⟨z.toNat - 1, ⟨hi, ?_⟩, by omega⟩
    rw [h2]
    simp [h3, hc]
/-- No cycle takes what is reached at its end. -/
theorem gone_safe {s : StM} (h : InvM s) (hl : s.obs.length ≤ 400) (hc : s.cyc = true) (hm : s.mode = 1 ∨ s.mode = 2) (hj : s.mode = 1 → JM s) (hk : s.mode = 2 → KM s) {z : Int} (hz : z ∈ goneM s.drained.obs) : ¬ ReachM s z := fun hr => by
  obtain ⟨o, ho, hcol⟩ := mem_goneM.1 hz
  exact drained_dark h hl hc hm hj hk hr o ho hcol
end Go.Proofs.Ytjlaofoaglifpaa
