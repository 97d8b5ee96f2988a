/- What the program's search holds: the plain mathematics. -/
import Derived.Test.YtchcdlelaklnnaaGlP
import Derived.Maps.OwnSet
namespace Go.Proofs.Ytchcdlelaklnnaa
set_option linter.unusedVariables false
/-- Which of the first k objects have the id z. -/
def ixK (objs : List GobL) (k : Nat) (z : Int) : List Nat := (List.range k).filter fun i => decide ((objs[i]?.map GobL.id) = some z)
theorem ixK_succ (objs : List GobL) (k : Nat) (z : Int) (h : k < objs.length) : ixK objs (k + 1) z = if objs[k].id = z then ixK objs k z ++ [k] else ixK objs k z := by
  unfold ixK
  rw [List.range_succ, List.filter_append]
  by_cases e : objs[k].id = z <;> simp [List.getElem?_eq_getElem h, e]
theorem mem_ixK {objs : List GobL} {k i : Nat} {z : Int} (hk : k ≤ objs.length) : i ∈ ixK objs k z ↔ i < k ∧ ∃ h : i < objs.length, objs[i].id = z := by
  unfold ixK
  simp only [List.mem_filter, List.mem_range, decide_eq_true_eq]
  constructor
  · rintro ⟨h1, h2⟩
    have h3 : i < objs.length := by omega
    rw [List.getElem?_eq_getElem h3] at h2
    exact ⟨h1, h3, by simpa using h2⟩
  · rintro ⟨h1, h3, h2⟩
    refine ⟨h1, ?_⟩
    rw [List.getElem?_eq_getElem h3]
    simp [h2]
theorem ixK_length (objs : List GobL) (k : Nat) (z : Int) : (ixK objs k z).length ≤ k := by
  have := List.length_filter_le (fun i => decide ((objs[i]?.map GobL.id) = some z)) (List.range k)
  simpa [ixK] using this
theorem ixK_nodup (objs : List GobL) (k : Nat) (z : Int) : (ixK objs k z).Nodup := List.Pairwise.filter _ List.nodup_range
theorem ixK_zero (objs : List GobL) (z : Int) : ixK objs 0 z = [] := by simp [ixK]
theorem ixK_lt {objs : List GobL} {k i : Nat} {z : Int} (hk : k ≤ objs.length) (h : i ∈ ixK objs k z) : i < objs.length := by
  obtain ⟨_, h2, _⟩ := (mem_ixK hk).1 h
  exact h2
/-- What the search is given for z, and what it keeps then. -/
def retL (objs : List GobL) (lv : List Int) (z : Int) : List Nat := if z ≠ 0 ∧ z ∉ lv then ixK objs objs.length z else []
def comeG (objs : List GobL) (lv : List Int) (z : Int) : List Int := if retL objs lv z = [] then lv else lv ++ [z]
theorem retL_has {objs : List GobL} {lv : List Int} {z : Int} (h : retL objs lv z ≠ []) : hasG objs z ∧ z ∉ lv := by
  unfold retL at h
  split at h
  · rename_i hc
    obtain ⟨i, hi⟩ := List.exists_mem_of_ne_nil _ h
    obtain ⟨_, h2, h3⟩ := (mem_ixK (Nat.le_refl _)).1 hi
    exact ⟨⟨hc.1, objs[i], List.getElem_mem _, h3⟩, hc.2⟩
  · exact absurd rfl h
theorem has_retL {objs : List GobL} {lv : List Int} {z : Int} (h : hasG objs z) (hn : z ∉ lv) : retL objs lv z ≠ [] := by
  obtain ⟨h0, o, ho, e⟩ := h
  obtain ⟨i, hi, rfl⟩ := List.mem_iff_getElem.1 ho
  unfold retL
  rw [if_pos ⟨h0, hn⟩]
  exact List.ne_nil_of_mem ((mem_ixK (Nat.le_refl _)).2 ⟨hi, hi, e⟩)
theorem nodup_len {α : Type} [DecidableEq α] : ∀ {l m : List α}, l.Nodup → (∀ z ∈ l, z ∈ m) → l.length ≤ m.length
  | [], m, _, _ => by simp
  | z :: l, m, h, hs => by
    have hz := List.nodup_cons.1 h
    have hm : z ∈ m := hs z (by simp)
    have h1 := nodup_len (m := m.erase z) hz.2 fun y hy => by
      have hne : y ≠ z := fun q => hz.1 (q ▸ hy)
      exact (List.mem_erase_of_ne hne).2 (hs y (by simp [hy]))
    have h2 := List.length_erase_of_mem hm
    have h3 := List.length_pos_of_mem hm
    simp only [List.length_cons]
    omega
/-- Where the program's search stands: lv is what it has found, row the objects it has been given. -/
structure PrG (objs : List GobL) (st lv : List Int) (row : List Nat) : Prop where
  nd : lv.Nodup
  live : ∀ z ∈ lv, LiveG objs st z
  rows : ∀ i, i ∈ row ↔ ∃ h : i < objs.length, objs[i].id ∈ lv
  rnd : row.Nodup
theorem PrG.start (objs : List GobL) (st : List Int) : PrG objs st [] [] := ⟨List.nodup_nil, by simp, by simp, List.nodup_nil⟩
theorem PrG.rlen {objs : List GobL} {st lv : List Int} {row : List Nat} (h : PrG objs st lv row) : row.length ≤ objs.length := by
  have := nodup_len (m := List.range objs.length) h.rnd fun i hi => by
    obtain ⟨h1, _⟩ := (h.rows i).1 hi
    simpa using h1
  simpa using this
theorem PrG.len {objs : List GobL} {st lv : List Int} {row : List Nat} (h : PrG objs st lv row) : lv.length ≤ objs.length := by
  have := nodup_len (m := objs.map GobL.id) h.nd fun z hz => by
    obtain ⟨_, o, ho, e⟩ := (h.live z hz).has
    rw [← e]
    exact List.mem_map_of_mem ho
  simpa using this
/-- All that ids tell has been found. -/
def ClG (objs : List GobL) (lv ids : List Int) : Prop := ∀ z ∈ ids, hasG objs z → z ∈ lv
theorem comeG_sub {objs : List GobL} {lv : List Int} {z y : Int} (h : y ∈ lv) : y ∈ comeG objs lv z := by
  unfold comeG
  split
  · exact h
  · simp [h]
theorem ClG.come {objs : List GobL} {lv ids : List Int} {z : Int} (h : ClG objs lv ids) : ClG objs (comeG objs lv z) ids := fun y hy hh => comeG_sub (h y hy hh)
theorem comeG_has {objs : List GobL} {lv : List Int} {z : Int} (h : hasG objs z) : z ∈ comeG objs lv z := by
  by_cases hz : z ∈ lv
  · exact comeG_sub hz
  · unfold comeG
    rw [if_neg (has_retL h hz)]
    simp
theorem ClG.more {objs : List GobL} {lv ids : List Int} {m : Nat} (hm : m < ids.length) (h : ClG objs lv (ids.take m)) : ClG objs (comeG objs lv ids[m]) (ids.take (m + 1)) := by
  intro y hy hh
  rw [List.take_add_one, List.getElem?_eq_getElem hm] at hy
  rcases List.mem_append.1 hy with hy | hy
  · exact comeG_sub (h y hy hh)
  · have e : y = ids[m] := by simpa using hy
    subst e
    exact comeG_has hh
theorem PrG.come {objs : List GobL} {st lv : List Int} {row : List Nat} {z : Int} (h : PrG objs st lv row) (hl : hasG objs z → LiveG objs st z) : PrG objs st (comeG objs lv z) (row ++ retL objs lv z) := by
  by_cases hr : retL objs lv z = []
  · unfold comeG
    rw [if_pos hr, hr, List.append_nil]
    exact h
  · obtain ⟨hh, hn⟩ := retL_has hr
    have ec : comeG objs lv z = lv ++ [z] := by unfold comeG; rw [if_neg hr]
    have er : retL objs lv z = ixK objs objs.length z := by unfold retL; rw [if_pos ⟨hh.1, hn⟩]
    rw [ec, er]
    refine ⟨?_, ?_, ?_, ?_⟩
    · exact List.nodup_append.2 ⟨h.nd, by simp, fun a ha b hb => by
        have : b = z := by simpa using hb
        subst this
        exact fun q => hn (q ▸ ha)⟩
    · intro y hy
      rcases List.mem_append.1 hy with hy | hy
      · exact h.live y hy
      · have : y = z := by simpa using hy
        subst this
        exact hl hh
    · intro i
      constructor
      · intro hi
        rcases List.mem_append.1 hi with hi | hi
        · obtain ⟨h1, h2⟩ := (h.rows i).1 hi
          exact ⟨h1, by simp [h2]⟩
        · obtain ⟨_, h1, h2⟩ := (mem_ixK (Nat.le_refl _)).1 hi
          exact ⟨h1, by simp [h2]⟩
      · rintro ⟨h1, h2⟩
        rcases List.mem_append.1 h2 with h2 | h2
        · exact List.mem_append_left _ ((h.rows i).2 ⟨h1, h2⟩)
        · exact List.mem_append_right _ ((mem_ixK (Nat.le_refl _)).2 ⟨h1, h1, by simpa using h2⟩)
    · exact List.nodup_append.2 ⟨h.rnd, ixK_nodup _ _ _, fun a ha b hb => by
        intro q
        subst q
        obtain ⟨_, h2⟩ := (h.rows a).1 ha
        obtain ⟨_, _, h3⟩ := (mem_ixK (Nat.le_refl _)).1 hb
        rw [h3] at h2
        exact hn h2⟩
/-- What the first a objects of the row lead tof has been found. -/
def FoG (objs : List GobL) (lv : List Int) (row : List Nat) (a : Nat) : Prop := ∀ j, j < a → ∀ i, row[j]? = some i → ∀ h : i < objs.length, ClG objs lv (outG objs[i])
theorem FoG.zero (objs : List GobL) (lv : List Int) (row : List Nat) : FoG objs lv row 0 := fun j hj => by omega
theorem FoG.come {objs : List GobL} {lv : List Int} {row more : List Nat} {a : Nat} {z : Int} (ha : a ≤ row.length) (h : FoG objs lv row a) : FoG objs (comeG objs lv z) (row ++ more) a := by
  intro j hj i hi hh
  rw [List.getElem?_append_left (by omega)] at hi
  exact (h j hj i hi hh).come
theorem FoG.more {objs : List GobL} {lv : List Int} {row : List Nat} {a : Nat} (ha : a < row.length) (h : FoG objs lv row a) (hc : ∀ h : row[a] < objs.length, ClG objs lv (outG objs[row[a]])) : FoG objs lv row (a + 1) := by
  intro j hj i hi hh
  by_cases e : j = a
  · subst e
    rw [List.getElem?_eq_getElem ha] at hi
    have e2 : row[j] = i := by simpa using hi
    subst e2
    exact hc hh
  · exact h j (by omega) i hi hh
theorem PrG.step {objs : List GobL} {st lv : List Int} {row : List Nat} {a : Nat} {z : Int} (h : PrG objs st lv row) (ha : a < row.length) (hh : row[a] < objs.length) (hz : z ∈ outG objs[row[a]]) : hasG objs z → LiveG objs st z := by
  obtain ⟨_, h2⟩ := (h.rows row[a]).1 (List.getElem_mem _)
  exact fun q => .step (h.live _ h2) (List.getElem_mem _) hz q
theorem PrG.fin {objs : List GobL} {st lv : List Int} {row : List Nat} (h : PrG objs st lv row) (hs : ClG objs lv st) (hf : FoG objs lv row row.length) (z : Int) : z ∈ lv ↔ LiveG objs st z := by
  constructor
  · exact h.live z
  · intro hl
    induction hl with
    | root h1 h2 => exact hs _ h1 h2
    | @step id o hp ho hid hh ih =>
      obtain ⟨i, hi, rfl⟩ := List.mem_iff_getElem.1 ho
      have hm := (h.rows i).2 ⟨hi, ih⟩
      obtain ⟨j, hj, e⟩ := List.mem_iff_getElem.1 hm
      exact hf j hj i (by rw [List.getElem?_eq_getElem hj, e]) hi _ hid hh
theorem PrG.sorted {objs : List GobL} {st lv s : List Int} {row : List Nat} (h : PrG objs st lv row) (hs : ClG objs lv st) (hf : FoG objs lv row row.length) (hp : s.Perm lv) (ho : s.Pairwise (· ≤ ·)) : s = liveL objs st := by
  refine liveL_of ?_ fun z => (hp.mem_iff).trans (h.fin hs hf z)
  have hn : s.Nodup := hp.nodup_iff.2 h.nd
  exact (List.pairwise_and_iff.2 ⟨ho, hn⟩).imp fun ⟨h1, h2⟩ => by omega
end Go.Proofs.Ytchcdlelaklnnaa

/- The program's map of objects by their ids, and the function that takes from it. -/
namespace Go.Proofs.Ytchcdlelaklnnaa
set_option linter.unusedVariables false
open Go.ChangeShapes Go.WideShapes Go.ChangeAt Go.RowKit Go.Maps

theorem keyI : Keyed Try.prog 2 := int_keyed Try.underlying2
theorem zeroP (w : World) : (zeroValue 84).run Try.prog w = .ok (.slice none 0 0) w := by kernel_rfl
/-- A value of the map is read as itself. -/
def RV : Value → Option (DataW Value × List MemPlace) := fun v => some (.held v, [])
def nilV : Value := .slice none 0 0
/-- Pointers tof objects. -/
def ptrsV (b : Nat) (ks : List Nat) : List Value := ks.map fun i => .pointer (some ⟨b, i * 5, none⟩)
theorem ptrsV_length (b : Nat) (ks : List Nat) : (ptrsV b ks).length = ks.length * 1 := by simp [ptrsV]
theorem ptrsV_append (b : Nat) (ks ls : List Nat) : ptrsV b (ks ++ ls) = ptrsV b ks ++ ptrsV b ls := by simp [ptrsV]
theorem ptrsV_one (b : Nat) (ks : List Nat) : ∀ u ∈ ptrsV b ks, u.oneCell' = true := fun u hu => by
  simp only [ptrsV, List.mem_map] at hu
  obtain ⟨i, _, rfl⟩ := hu
  rfl
/-- The map M holds g z for every z that f tells something of. -/
structure MapOf (w : World) (M n : Nat) (f : Int → List Nat) (g : Int → Value) (D : DataW Value) : Prop where
  own : w.ownsMap Try.prog 2 RV M n D
  has : ∀ z : Int, Maps.has D (.int .i64 z) = !(f z).isEmpty
  at_ : ∀ z : Int, D.atKey (.int .i64 z) (.held nilV) = .held (if (f z).isEmpty then nilV else g z)
/-- The rows that g tells, of pointers into b0. -/
structure RowsOf (w : World) (B b0 : Nat) (f : Int → List Nat) (g : Int → Value) : Prop where
  row : ∀ z, f z ≠ [] → w.ownsRow B 83 1 (g z) (f z).length (ptrsV b0 (f z))
  apart : ∀ z z', f z ≠ [] → f z' ≠ [] → z ≠ z' → (g z).ownBlock ≠ (g z').ownBlock
theorem MapOf.kept {w w' : World} {M n : Nat} {f : Int → List Nat} {g : Int → Value} {D : DataW Value} (h : MapOf w M n f g D) (hb : w'.heap[M]? = w.heap[M]?) : MapOf w' M n f g D := by
  obtain ⟨⟨es, clock, h1, h2⟩, h3, h4⟩ := h
  exact ⟨⟨es, clock, by rw [hb]; exact h1, h2⟩, h3, h4⟩
theorem MapOf.del {w w' : World} {M n : Nat} {f : Int → List Nat} {g : Int → Value} {D : DataW Value} {z : Int} (h : MapOf w M n f g D) (ho : w'.ownsMap Try.prog 2 RV M n (D.del (.int .i64 z))) : MapOf w' M n (fun y => if y = z then [] else f y) g (D.del (.int .i64 z)) := by
  refine ⟨ho, fun y => ?_, fun y => ?_⟩
  · by_cases e : y = z
    · subst e
      simp [has_del_same]
    · rw [has_del_other (by simpa using e), h.has, if_neg e]
  · by_cases e : y = z
    · subst e
      simp [atKey_del_same]
    · rw [atKey_del_other (by simpa using e), h.at_, if_neg e]
theorem MapOf.put {w w' : World} {M n : Nat} {f : Int → List Nat} {g : Int → Value} {D : DataW Value} {z : Int} {k : Nat} {v : Value} (h : MapOf w M n f g D) (ho : w'.ownsMap Try.prog 2 RV M (n + 1) (D.put (.int .i64 z) (.held v))) : MapOf w' M (n + 1) (fun y => if y = z then f y ++ [k] else f y) (fun y => if y = z then v else g y) (D.put (.int .i64 z) (.held v)) := by
  refine ⟨ho, fun y => ?_, fun y => ?_⟩
  · by_cases e : y = z
    · subst e
      rw [has_put_same h.own.isMap (k := .int .i64 y) trivial]; simp
    · rw [has_put_other (by simpa using e), h.has, if_neg e]
  · by_cases e : y = z
    · subst e
      rw [atKey_put_same h.own.isMap (k := .int .i64 y) trivial]; simp
    · rw [atKey_put_other (by simpa using e), h.at_, if_neg e, if_neg e]
/-- What the map tells of z once the ids lv are gone from it. -/
theorem retL_del (objs : List GobL) (lv : List Int) (z : Int) (h : retL objs lv z ≠ []) : (fun y => if y = z then [] else retL objs lv y) = retL objs (comeG objs lv z) := by
  funext y
  unfold comeG
  rw [if_neg h]
  by_cases e : y = z
  · subst e
    simp [retL]
  · simp [retL, e]
/-- Where the search stands in memory: wB is the world ahead of it, V the map's variable, M the map, L what is found's variable. -/
structure CoW (wB wr : World) (V M L : Nat) (objs : List GobL) (g : Int → Value) (lv : List Int) (lvv : Value) : Prop where
  os : wr.os = wB.os
  tape : wr.tape = wB.tape
  output : wr.output = wB.output
  siz : wB.heap.size ≤ wr.heap.size
  old : ∀ k, k < wB.heap.size → k ≠ M → k ≠ L → wr.heap[k]? = wB.heap[k]?
  vlt : V < wB.heap.size
  llt : L < wB.heap.size
  mlt : M < wB.heap.size
  ne : V ≠ M ∧ V ≠ L ∧ M ≠ L
  vc : wB.cell? ⟨V, 0, none⟩ = some (.map (some M))
  lb : ∃ u, wr.heap[L]? = some (.cells #[u] 32 (0, 0))
  lc : wr.cell? ⟨L, 0, none⟩ = some lvv
  lo : wr.ownsRow wB.heap.size 2 1 lvv lv.length (intsV lv)
  mp : ∃ D, MapOf wr M objs.length (retL objs lv) g D
theorem CoW.vcell {wB wr : World} {V M L : Nat} {objs : List GobL} {g : Int → Value} {lv : List Int} {lvv : Value} (h : CoW wB wr V M L objs g lv lvv) : wr.cell? ⟨V, 0, none⟩ = some (.map (some M)) :=
  (World.cell?_of_block (w := wB) (h.old V h.vlt h.ne.1 h.ne.2.1)).trans h.vc
theorem CoW.lfz {wB wr : World} {V M L : Nat} {objs : List GobL} {g : Int → Value} {lv : List Int} {lvv : Value} (h : CoW wB wr V M L objs g lv lvv) : wr.frozen? ⟨L, 0, none⟩ = false := by
  obtain ⟨u, hu⟩ := h.lb
  simp [World.frozen?, hu]
/-- The world changes nowhere where the search stands. -/
theorem CoW.kept {wB wr w' : World} {V M L : Nat} {objs : List GobL} {g : Int → Value} {lv : List Int} {lvv : Value} (h : CoW wB wr V M L objs g lv lvv) {row : Option Nat} (hg : wr.grownBy w' row) (hrow : ∀ k, row = some k → wB.heap.size ≤ k ∧ lvv.ownBlock ≠ some k) : CoW wB w' V M L objs g lv lvv := by
  have hs := hg.size
  have h0 := h.siz
  have kp : ∀ k, k < wB.heap.size → w'.heap[k]? = wr.heap[k]? := fun k hk => hg.block k (by omega) fun e => by have := (hrow k e.symm).1; omega
  refine ⟨hg.os.trans h.os, hg.tape.trans h.tape, hg.output.trans h.output, by omega, fun k hk h1 h2 => (kp k hk).trans (h.old k hk h1 h2), h.vlt, h.llt, h.mlt, h.ne, h.vc, ?_, ?_, ?_, ?_⟩
  · rw [kp L h.llt]; exact h.lb
  · exact (World.cell?_of_block (w := wr) (kp L h.llt)).trans h.lc
  · exact own_kept h.lo fun k hk => hg.block k (World.ownsRow.lt h.lo k hk).2 fun e => (hrow k e.symm).2 hk
  · obtain ⟨D, hD⟩ := h.mp
    exact ⟨D, hD.kept (kp M h.mlt)⟩
end Go.Proofs.Ytchcdlelaklnnaa

/- The function that takes from the map. -/
namespace Go.Proofs.Ytchcdlelaklnnaa
set_option linter.unusedVariables false
open Go.ChangeShapes Go.WideShapes Go.ChangeAt Go.RowKit Go.Maps

/-- The rows that were made ahead of the search. -/
structure GrW (wB : World) (B M L b0 : Nat) (objs : List GobL) (g : Int → Value) : Prop where
  rows : ∀ z, retL objs [] z ≠ [] → wB.ownsRow B 83 1 (g z) (retL objs [] z).length (ptrsV b0 (retL objs [] z))
  lL : ∃ u, wB.heap[L]? = some (.cells #[u] 32 (0, 0))
  mM : ∃ es c, wB.heap[M]? = some (.map es c)
theorem retL_old {objs : List GobL} {lv : List Int} {z : Int} (h : retL objs lv z ≠ []) : retL objs lv z = retL objs [] z := by
  unfold retL at h ⊢
  split at h
  · rename_i hc
    rw [if_pos hc, if_pos ⟨hc.1, by simp⟩]
  · exact absurd rfl h
theorem GrW.src {wB wr : World} {B V M L b0 : Nat} {objs : List GobL} {g : Int → Value} {lv : List Int} {lvv : Value} (hG : GrW wB B M L b0 objs g) (h : CoW wB wr V M L objs g lv lvv) (z : Int) {rs : List Nat} (hrs : rs ≠ []) (e : retL objs [] z = rs) : SrcAt wr 1 (g z) rs.length (ptrsV b0 rs) := by
  subst e
  have ho := hG.rows z hrs
  rcases ho.2 with ⟨_, h0⟩ | ⟨k, cap, cur, e, hB, hk, h1, h2, h3, h4⟩
  · exact absurd (List.eq_nil_of_length_eq_zero h0) hrs
  · have hlt : k < wB.heap.size := (Array.getElem?_eq_some_iff.1 hk).1
    have hkp : wr.heap[k]? = wB.heap[k]? := h.old k hlt (fun q => by
      obtain ⟨es, c, hm⟩ := hG.mM
      rw [← q, hk] at hm; cases hm) (fun q => by
      obtain ⟨u, hm⟩ := hG.lL
      rw [← q, hk] at hm; cases hm)
    rw [e]
    refine .inr ⟨⟨k, 0, none⟩, cap, rfl, ptrsV_length _ _, fun j u hj => ?_⟩
    have := World.ownsRow.cells ho (g := k) (by rw [e]; rfl) j u hj
    exact (World.cell?_of_block (w := wB) (a := (⟨k, 0, none⟩ : Addr).add j) (by rw [Addr.add_lit]; exact hkp)).trans this
theorem CoW.mid {wB wr w2 : World} {V M L : Nat} {objs : List GobL} {g : Int → Value} {lv : List Int} {lvv lvv' : Value} {o : Obj} (h : CoW wB wr V M L objs g lv lvv) (hg2 : (wr.alloc o).grownBy w2 lvv.ownBlock) : (w2.setCell ⟨L, 0, none⟩ lvv').heap[M]? = wr.heap[M]? := by
  have h0 := h.siz
  have h1 := h.mlt
  have ho : ∀ k, lvv.ownBlock = some k → wB.heap.size ≤ k := fun k hk => (World.ownsRow.lt h.lo k hk).1
  rw [Below.heap_setCell _ _ _ _ (fun e => h.ne.2.2 (by exact e)), hg2.block M (by simp; omega) (fun e => by have := ho M e.symm; omega), Below.heap_alloc _ _ _ (by omega)]
theorem CoW.mid2 {wB wr w2 : World} {V M L : Nat} {objs : List GobL} {g : Int → Value} {lv : List Int} {lvv : Value} {o : Obj} (h : CoW wB wr V M L objs g lv lvv) (hg2 : (wr.alloc o).grownBy w2 lvv.ownBlock) : w2.cell? ⟨L, 0, none⟩ = some lvv ∧ w2.frozen? ⟨L, 0, none⟩ = false ∧ ∀ lvv', (w2.setCell ⟨L, 0, none⟩ lvv').cell? ⟨V, 0, none⟩ = some (.map (some M)) := by
  have h0 := h.siz
  have h1 := h.mlt
  have h1' := h.llt
  have h1v := h.vlt
  have ho : ∀ k, lvv.ownBlock = some k → wB.heap.size ≤ k := fun k hk => (World.ownsRow.lt h.lo k hk).1
  have kp : ∀ k, k < wB.heap.size → w2.heap[k]? = wr.heap[k]? := fun k hk => by
    rw [hg2.block k (by simp; omega) (fun e => by have := ho k e.symm; omega), Below.heap_alloc _ _ _ (by omega)]
  refine ⟨(World.cell?_of_block (w := wr) (kp L h1')).trans h.lc, (World.frozen?_of_block (w := wr) (kp L h1')).trans h.lfz, fun lvv' => ?_⟩
  rw [World.cell?_setCell_far _ _ _ _ (fun e => h.ne.2.1 (by exact e.symm))]
  exact (World.cell?_of_block (w := wr) (kp V h1v)).trans h.vcell
theorem CoW.come {wB wr w2 w3 : World} {V M L : Nat} {objs : List GobL} {g : Int → Value} {lv : List Int} {lvv lvv' : Value} {z : Int} {o : Obj} {D : DataW Value} (h : CoW wB wr V M L objs g lv lvv) (hn : retL objs lv z ≠ []) (hg2 : (wr.alloc o).grownBy w2 lvv.ownBlock)
    (hown : w2.ownsRow wB.heap.size 2 1 lvv' (lv.length + 1) (intsV lv ++ [.int .i64 z])) (hat : lvv'.ownBlock = lvv.ownBlock ∨ lvv'.ownBlock = some (wr.alloc o).heap.size) (hD : MapOf wr M objs.length (retL objs lv) g D)
    (ho : w3.ownsMap Try.prog 2 RV M objs.length (D.del (.int .i64 z))) (ht : (w2.setCell ⟨L, 0, none⟩ lvv').mapTurned w3 M) :
    CoW wB w3 V M L objs g (comeG objs lv z) lvv' ∧ (∀ (k : Nat) cur fz, wr.heap[k]? = some (Obj.cells cur 83 fz) → w3.heap[k]? = wr.heap[k]?) ∧ wr.heap.size ≤ w3.heap.size := by
  have h0 := h.siz
  have h1 := h.mlt
  have h1' := h.llt
  have hl : ∀ k, lvv.ownBlock = some k → wB.heap.size ≤ k ∧ k < wr.heap.size := fun k hk => World.ownsRow.lt h.lo k hk
  have s2 := hg2.size
  simp only [World.size_alloc] at s2
  have ht3 := ht.grown
  have s3 : w2.heap.size ≤ w3.heap.size := by have := ht3.size; simpa [World.setCell] using this
  have hl' : ∀ k, lvv'.ownBlock = some k → wB.heap.size ≤ k ∧ k < w2.heap.size := fun k hk => World.ownsRow.lt hown k hk
  have kp2 : ∀ k, k < wr.heap.size → lvv.ownBlock ≠ some k → w2.heap[k]? = wr.heap[k]? := fun k hk hne => by
    rw [hg2.block k (by simp; omega) (fun e => hne e.symm), Below.heap_alloc _ _ _ hk]
  have kp3 : ∀ k, k < w2.heap.size → k ≠ M → k ≠ L → w3.heap[k]? = w2.heap[k]? := fun k hk hM hL => by
    rw [ht3.block k (by simpa [World.setCell] using hk) (fun e => hM (by cases e; rfl)), Below.heap_setCell _ _ _ _ (fun e => hL e)]
  have kp : ∀ k, k < wr.heap.size → k ≠ M → k ≠ L → lvv.ownBlock ≠ some k → w3.heap[k]? = wr.heap[k]? := fun k hk hM hL hne => (kp3 k (by omega) hM hL).trans (kp2 k hk hne)
  obtain ⟨u, hu⟩ := h.lb
  have hL2 : w2.heap[L]? = some (.cells #[u] 32 (0, 0)) := (kp2 L (by omega) (fun e => by have := (hl L e).1; omega)).trans hu
  have hL3 : w3.heap[L]? = some (.cells #[lvv'] 32 (0, 0)) := by
    rw [ht3.block L (by simp [World.setCell]; omega) (fun e => h.ne.2.2 (by cases e; rfl))]
    exact heap_set_one lvv' hL2
  have ec : comeG objs lv z = lv ++ [z] := by unfold comeG; rw [if_neg hn]
  refine ⟨⟨?_, ?_, ?_, by omega, fun k hk hM hL => (kp k (by omega) hM hL (fun e => by have := (hl k e).1; omega)).trans (h.old k hk hM hL), h.vlt, h.llt, h.mlt, h.ne, h.vc, ⟨_, hL3⟩, ?_, ?_, ?_⟩, ?_, by omega⟩
  · exact ht3.os.trans (hg2.os.trans h.os)
  · exact ht3.tape.trans (hg2.tape.trans h.tape)
  · exact ht3.output.trans (hg2.output.trans h.output)
  · simp [World.cell?, hL3]
  · rw [ec, List.length_append, intsV_append]
    exact own_kept hown fun k hk => kp3 k (hl' k hk).2 (fun e => by have := (hl' k hk).1; omega) (fun e => by have := (hl' k hk).1; omega)
  · refine ⟨D.del (.int .i64 z), ?_⟩
    rw [← retL_del objs lv z hn]
    exact hD.del ho
  · intro k cur fz hk
    have hlt : k < wr.heap.size := (Array.getElem?_eq_some_iff.1 hk).1
    refine kp k hlt (fun e => ?_) (fun e => ?_) (fun e => ?_)
    · obtain ⟨es, c, hm, _⟩ := hD.own
      rw [← e, hk] at hm; cases hm
    · rw [← e, hk] at hu; cases hu
    · rcases h.lo.2 with ⟨q, _⟩ | ⟨k', cap, cur', q, _, hm, _⟩
      · rw [q] at e; simp [Value.ownBlock] at e
      · rw [q] at e
        simp only [Value.ownBlock, Option.some.injEq] at e
        rw [e, hk] at hm; cases hm

set_option maxRecDepth 100000 in
set_option maxHeartbeats 1000000 in
theorem come_calls (wB W : World) (B V M L b0 : Nat) (objs : List GobL) (g : Int → Value) (lv : List Int) (lvv : Value) (z : Int) (hz : -9223372036854775808 ≤ z ∧ z ≤ 9223372036854775807) (hG : GrW wB B M L b0 objs g) (h : CoW wB W V M L objs g lv lvv) (hl : lv.length ≤ 8000) :
    Calls Try.prog 40 #[.int .i64 z, .pointer (some ⟨V, 0, none⟩), .pointer (some ⟨L, 0, none⟩)] W fun e w' => ∃ v, e = .returned v ∧ SrcAt w' 1 v (retL objs lv z).length (ptrsV b0 (retL objs lv z)) ∧ (∃ lvv', CoW wB w' V M L objs g (comeG objs lv z) lvv') ∧ (∀ (k : Nat) cur fz, W.heap[k]? = some (Obj.cells cur 83 fz) → w'.heap[k]? = W.heap[k]?) ∧ W.heap.size ≤ w'.heap.size := by
  obtain ⟨D, hD⟩ := h.mp
  have hown := hD.own
  have hhas := hD.has z
  have hat := hD.at_ z
  have hkey : keyOf Try.prog 2 (.int .i64 z) = some (.int .i64 z) := keyOf_int_mk Try.underlying2 (WalkArith.wf_i64 (by omega))
  obtain ⟨i9, hi9, hz9, hs9, hb9⟩ := info_parts (show (Try.prog.info? 2).map (fun i => (i.zero, i.size, i.bytes)) = some (some (.int .i64 0), 1, 8) by kernel_rfl)
  have hc := h.vcell
  have hlc := h.lc
  have hlf := h.lfz
  have hH : Hid (CoW wB W V M L objs g lv lvv) := h
  have hDH : Hid (MapOf W M objs.length (retL objs lv) g D) := hD
  have hGH : Hid (GrW wB B M L b0 objs g) := hG
  have hlo := h.lo
  have hsz := h.siz
  clear h hD hG
  by_cases hr : retL objs lv z = []
  · rw [hr] at hhas hat
    simp only [List.isEmpty_nil, Bool.not_true, if_true] at hhas hat
    go_enter Try.func40, Try.ntmps40
    go_wp2_with (first
      | (at_lookup; refine wpList_lookup_own_ok _ rfl _ _ 82 rfl 2 84 keyI Try.underlying82 RV (zeroP _) (.held nilV) [] rfl M objs.length D rfl hown _ _ rfl hkey ?_; intro v ps hv; rw [hhas]; rw [hat] at hv; obtain rfl : v = nilV := (by have hv' := hv; simp only [RV, Option.some.injEq, Prod.mk.injEq, DataW.held.injEq] at hv'; exact hv'.1); clear hv)
      | go_in)
    go_ret
    exact ⟨nilV, rfl, by rw [hr]; exact .inl ⟨rfl, rfl, rfl⟩, ⟨lvv, by unfold comeG; rw [if_pos hr]; exact hH.out⟩, fun _ _ _ _ => rfl, Nat.le_refl _⟩
  · have hre : (retL objs lv z).isEmpty = false := by simpa using hr
    rw [hre] at hhas hat
    simp only [Bool.not_false, Bool.false_eq_true, if_false] at hhas hat
    have hloA : Hid ((W.alloc (.cells #[.int .i64 z] 2)).ownsRow wB.heap.size 2 1 lvv lv.length (intsV lv)) := own_kept hlo fun k hk => Below.heap_alloc _ _ _ (World.ownsRow.lt hlo k hk).2
    have hsrcA : Hid (SrcAt (W.alloc (.cells #[.int .i64 z] 2)) 1 (.slice (some ⟨W.heap.size, 0, none⟩) 1 1) 1 [.int .i64 z]) := .inr ⟨⟨W.heap.size, 0, none⟩, 1, rfl, rfl, fun j u hj => by
      have hj0 : j = 0 := by have := (List.getElem?_eq_some_iff.1 hj).1; simp at this; omega
      subst hj0
      simp at hj
      subst hj
      rw [Addr.add_lit]
      exact (rangeAt_heap (heap_alloc_new W (.cells #[.int .i64 z] 2))) 0 _ rfl⟩
    clear hlo
    go_enter Try.func40, Try.ntmps40
    go_wp2_with (first
      | (at_lookup; refine wpList_lookup_own_ok _ rfl _ _ 82 rfl 2 84 keyI Try.underlying82 RV (zeroP _) (.held nilV) [] rfl M objs.length D rfl hown _ _ rfl hkey ?_; intro v ps hv; rw [hhas]; rw [hat] at hv; obtain rfl : v = g z := (by have hv' := hv; simp only [RV, Option.some.injEq, Prod.mk.injEq, DataW.held.injEq] at hv'; exact hv'.1); clear hv)
      | (refine wpList_append_src rfl (.tmp 14) (.tmp 16) 32 rfl wB.heap.size 2 i9 (.int .i64 0) 1 8 Try.underlying32 hi9 hz9 hs9 hb9 rfl (by omega) lvv lv.length (intsV lv) rfl hloA.out _ 1 [.int .i64 z] rfl hsrcA.out (by simp [Value.oneCell']) (by unfold maxLen; omega) (by omega) (by simp; omega) (fun lvv' w2 hown2 hgrow2 hat2 => ?_); obtain ⟨la, lc', rfl⟩ := own_slice hown2; obtain ⟨hlc2, hlf2, hvc2⟩ := hH.out.mid2 hgrow2; have hvc3 := hvc2 (.slice la (lv.length + 1) lc'); clear hvc2; have hown3 : Hid ((w2.setCell ⟨L, 0, none⟩ (.slice la (lv.length + 1) lc')).ownsMap Try.prog 2 RV M objs.length D) := (hDH.out.kept (hH.out.mid hgrow2)).own)
      | (at_delete; refine wpList_delete_own _ rfl _ _ 82 2 rfl 84 keyI Try.underlying82 RV M objs.length D rfl hown3.out _ _ rfl hkey ?_; intro w3 hown4 hturn)
      | go_in)
    go_ret
    obtain ⟨h1, h2, h3⟩ := hH.out.come hr hgrow2 hown2 hat2 hDH.out hown4 hturn
    exact ⟨g z, rfl, hGH.out.src h1 z hr (retL_old hr).symm, ⟨_, h1⟩, h2, h3⟩
end Go.Proofs.Ytchcdlelaklnnaa
