/- A region whose operations make memory, each in an interval of blocks of its own, and a last one behind all. -/
import Derived.Test.YtchcdlelaklnnaaRg
import Derived.Test.YtchcdlelaklnnaaMtB
namespace Go.Proofs.Ytchcdlelaklnnaa
set_option linter.unusedVariables false
open Go.ChangeShapes Go.WideShapes Go.ChangeAt Go.RowKit

def tailOk (l : List Oper) : Bool := regForward l && (List.range (l.length - 1)).all (fun i => waitsOn l (l.length - 1) i) && decide (0 < l.length)
theorem wp_region_tail {P : Program} {id : Nat} {l : List Oper} {Q : Exit → Act → World → Prop} {a : Act} {w : World} (hm : P.follows .mixedOrders = true) (F : (Nat → Value) → Act) (Val : Nat → Value → Nat → Nat → World → Prop) (src : Nat → Option Nat) (hs1 : ∀ i i' j, src i = some j → src i' = some j → i = i') (hs2 : ∀ i j, src i = some j → src j = none) (vs0 : Nat → Value) (ha : a = F vs0) (hok : tailOk l = true)
    (hst : ∀ i v lo hi w w', Below w.heap.size w w' → hi ≤ w.heap.size → Val i v lo hi w → Val i v lo hi w')
    (hop : ∀ i o, l[i]? = some o → i + 1 < l.length → RegStep2 P l Q F Val src w i o)
    (hlast : ∀ o, l[l.length - 1]? = some o → ∀ (vs : Nat → Value) (lo hi : Nat → Nat) (w' : World), Below w.heap.size w w' → (∀ i, i + 1 < l.length → Val i (vs i) (lo i) (hi i) w' ∧ w.heap.size ≤ lo i ∧ hi i ≤ w'.heap.size) → (∀ i j, i + 1 < l.length → j + 1 < l.length → i ≠ j → src i ≠ some j → src j ≠ some i → hi i ≤ lo j ∨ hi j ≤ lo i) → wpList P l.toArray Q [o] (F vs) w') : (Code.region id l.toArray true).wp P Q a w := by
  unfold tailOk at hok
  simp only [Bool.and_eq_true, decide_eq_true_eq] at hok
  obtain ⟨⟨hfw, hla⟩, hpos⟩ := hok
  have hlaE : ∀ i, i + 1 < l.length → waitsOn l (l.length - 1) i = true := fun i hi => List.all_eq_true.1 hla i (by simp; omega)
  refine wp_region_any hm ?_
  refine wpAny_inv (fun listed a' w' => (listed.getD (l.length - 1) false = true ∧ (∀ i, i < l.length → listed.getD i false = true) ∧ Q .normal a' w') ∨ (listed.getD (l.length - 1) false = false ∧ ∃ vs lo hi, RegInv F Val src w listed a' w' vs lo hi)) ?_ ?_ _ _ _ _ (by simp) ?_ ?_
  · rintro listed a w1 hs hI i hi'
    obtain ⟨h0, o, ho, hall⟩ := mem_ready.1 hi'
    obtain ⟨h0f, hisz⟩ := getD_flip h0
    have hil : i < l.length := by simpa [hs] using hisz
    have ho' : l[i]? = some o := by simpa using ho
    rcases hI with ⟨_, hd, _⟩ | ⟨hnl, vs, lo, hi, h⟩
    · rw [hd i hil] at h0f; cases h0f
    have hw : w.heap.size ≤ w1.heap.size := h.below.size
    have hl : ∀ j, listed.getD j false = true → j ≠ i := fun j hj e => by
      subst e
      rw [hj] at h0f; cases h0f
    have hset : ∀ j, (listed.setIfInBounds i true).getD j false = true → j = i ∨ (j ≠ i ∧ listed.getD j false = true) := fun j hj => by
      by_cases e : j = i
      · exact .inl e
      · exact .inr ⟨e, by rw [getD_set_ne false (Ne.symm e)] at hj; exact hj⟩
    by_cases hlst : i = l.length - 1
    · have hAll : ∀ j, j + 1 < l.length → listed.getD j false = true := fun j hj => by
        obtain ⟨e, he, hb, hej⟩ := waitsOn_spec (by rw [← hlst]; exact ho') (hlaE j hj)
        have := hall e he hb
        rw [hej] at this; exact this
      rw [h.frame]
      have hwl := hlast o (by rw [← hlst]; exact ho') vs lo hi w1 h.below (fun j hj => ⟨h.val j (hAll j hj), h.ge j (hAll j hj), h.lt j (hAll j hj)⟩) (fun i j hi hj hne n1 n2 => h.apart i j (hAll i hi) (hAll j hj) hne n1 n2)
      refine wpOp_of_list ho (wpList_q ?_ hwl)
      intro a2 w2 hq
      refine .inl ⟨by rw [← hlst]; exact getD_set_self (by simpa using hisz), fun j hj => ?_, hq⟩
      by_cases e : j = i
      · rw [e]; exact getD_set_self hisz
      · rw [getD_set_ne false (Ne.symm e)]; exact hAll j (by omega)
    have hi1 : i + 1 < l.length := by omega
    have hnl' : (listed.setIfInBounds i true).getD (l.length - 1) false = false := by rw [getD_set_ne false hlst]; exact hnl
    rw [h.frame]
    refine wpOp_mono ?_ (wpOp_of_list ho (hop i o ho' hi1 vs lo hi w1 h.below fun e he hb => ⟨h.val _ (hall e he hb), h.ge _ (hall e he hb), h.lt _ (hall e he hb), fun e' he' hb' hne n1 n2 => h.apart _ _ (hall e he hb) (hall e' he' hb') hne n1 n2⟩))
    rintro a' w2 ⟨v, lo', hi2, rfl, hb, hv, hint⟩
    have hw2 := hb.size
    -- where the interval lies
    have f1 : w.heap.size ≤ lo' ∧ hi2 ≤ w2.heap.size ∧ lo' ≤ hi2 := by
      rcases hint with ⟨e1, e2⟩ | ⟨j, _, ⟨e, he, hb', rfl⟩, e1, e2⟩
      · subst e1; subst e2; exact ⟨hw, Nat.le_refl _, hw2⟩
      · have hj := hall e he hb'
        rw [e1, e2]
        exact ⟨h.ge _ hj, Nat.le_trans (h.lt _ hj) hw2, h.le _ hj⟩
    have f2 : ∀ k, listed.getD k false = true → src i ≠ some k → src k ≠ some i → hi2 ≤ lo k ∨ hi k ≤ lo' := fun k hk n1 n2 => by
      rcases hint with ⟨e1, e2⟩ | ⟨j, hj', ⟨e, he, hb', hj⟩, e1, e2⟩
      · subst e1; exact .inr (h.lt k hk)
      · subst hj
        have hjl := hall e he hb'
        rw [e1, e2]
        have hne : e.on ≠ k := fun q => n1 (by rw [hj', q])
        refine h.apart _ _ hjl hk hne (by rw [hs2 _ _ hj']; simp) fun q => ?_
        exact hl k hk (hs1 _ _ _ q hj')
    refine .inr ⟨hnl', upd vs i v, updN lo i lo', updN hi i hi2, rfl, h.below.trans (hb.mono hw), ?_, ?_, ?_, ?_, ?_⟩
    · intro j hj
      rcases hset j hj with rfl | ⟨e, hj⟩
      · rw [upd_same, updN_same, updN_same]; exact hv
      · rw [upd_other _ _ e, updN_other _ _ e, updN_other _ _ e]; exact hst _ _ _ _ _ _ hb (h.lt j hj) (h.val j hj)
    · intro j hj
      rcases hset j hj with rfl | ⟨e, hj⟩
      · rw [updN_same]; exact f1.1
      · rw [updN_other _ _ e]; exact h.ge j hj
    · intro j hj
      rcases hset j hj with rfl | ⟨e, hj⟩
      · rw [updN_same]; exact f1.2.1
      · rw [updN_other _ _ e]; exact Nat.le_trans (h.lt j hj) hw2
    · intro j hj
      rcases hset j hj with rfl | ⟨e, hj⟩
      · rw [updN_same, updN_same]; exact f1.2.2
      · rw [updN_other _ _ e, updN_other _ _ e]; exact h.le j hj
    · intro j k hj hk hne n1 n2
      rcases hset j hj with ej | ⟨ej, hj'⟩
      · rcases hset k hk with ek | ⟨ek, hk'⟩
        · exact absurd (ej.trans ek.symm) hne
        · subst ej
          rw [updN_same, updN_same, updN_other _ _ ek, updN_other _ _ ek]
          exact f2 k hk' n1 n2
      · rcases hset k hk with ek | ⟨ek, hk'⟩
        · subst ek
          rw [updN_same, updN_same, updN_other _ _ ej, updN_other _ _ ej]
          exact (f2 j hj' n2 n1).symm
        · rw [updN_other _ _ ej, updN_other _ _ ej, updN_other _ _ ek, updN_other _ _ ek]
          exact h.apart j k hj' hk' hne n1 n2
  · rintro listed a' w' hs hI hr
    rcases hI with ⟨_, _, hq⟩ | ⟨hnl, _⟩
    · exact hq
    · have hd := regForward_done (l := l) hfw listed (by simpa using hs) hr (l.length - 1) (by omega)
      rw [hd] at hnl; cases hnl
  · simp [unlisted]
  · have hf : ∀ i, (Array.replicate l.length false).getD i false = true → False := fun i h => by
      rcases Nat.lt_or_ge i l.length with h' | h'
      · simp [h'] at h
      · simp [h'] at h
    refine .inr ⟨by rcases Nat.lt_or_ge (l.length - 1) l.length with h' | h' <;> simp [h'], vs0, fun _ => 0, fun _ => 0, ha, Below.drew (Below.refl _ _), fun i hi => (hf i (by simpa using hi)).elim, fun i hi => (hf i (by simpa using hi)).elim, fun i hi => (hf i (by simpa using hi)).elim, fun i hi => (hf i (by simpa using hi)).elim, fun i j hi => (hf i (by simpa using hi)).elim⟩
end Go.Proofs.Ytchcdlelaklnnaa

/- The specification's heap behind ops: what is copied. -/
namespace Go.Proofs.Ytchcdlelaklnnaa
set_option linter.unusedVariables false
open Go.ChangeShapes Go.WideShapes Go.ChangeAt Go.RowKit

/-- The cells of objects. -/
def obC : List ObP → List Value → List Value
  | x :: xs, g :: gs => .int .i64 x.id :: g :: .int .i64 x.col :: obC xs gs
  | _, _ => []
theorem obC_length : ∀ (xs : List ObP) (gs : List Value), gs.length = xs.length → (obC xs gs).length = xs.length * 3
  | [], [], _ => rfl
  | x :: xs, g :: gs, h => by
    have := obC_length xs gs (by simpa using h)
    simp [obC, this]
    omega
  | [], _ :: _, h => by simp at h
  | _ :: _, [], h => by simp at h
theorem obC_snoc : ∀ (xs : List ObP) (gs : List Value) (x : ObP) (g : Value), gs.length = xs.length → obC (xs ++ [x]) (gs ++ [g]) = obC xs gs ++ [.int .i64 x.id, g, .int .i64 x.col]
  | [], [], x, g, _ => rfl
  | y :: xs, k :: gs, x, g, h => by
    show _ :: _ :: _ :: obC (xs ++ [x]) (gs ++ [g]) = _
    rw [obC_snoc xs gs x g (by simpa using h)]
    rfl
  | [], _ :: _, _, _, h => by simp at h
  | _ :: _, [], _, _, h => by simp at h
theorem obC_get : ∀ (xs : List ObP) (gs : List Value) (j : Nat) (hj : j < xs.length) (hg : gs.length = xs.length) (i : Nat) (u : Value), [Value.int .i64 xs[j].id, gs[j]'(by omega), .int .i64 xs[j].col][i]? = some u → (obC xs gs)[j * 3 + i]? = some u
  | x :: xs, g :: gs, 0, _, _, i, u, h => by
    rw [Nat.zero_mul, Nat.zero_add]
    match i, h with
    | 0, h => exact h
    | 1, h => exact h
    | 2, h => exact h
    | i + 3, h => simp at h
  | x :: xs, g :: gs, j + 1, hj, hg, i, u, h => by
    have := obC_get xs gs j (by simpa using hj) (by simpa using hg) i u h
    rw [show (j + 1) * 3 + i = j * 3 + i + 3 by omega]
    exact this
  | [], _, _, hj, _, _, _, _ => by simp at hj
  | _ :: _, [], _, _, h, _, _, _ => by simp at h
theorem obC_one : ∀ (xs : List ObP) (gs : List Value), (∀ g ∈ gs, g.oneCell' = true) → ∀ u ∈ obC xs gs, u.oneCell' = true
  | x :: xs, g :: gs, h, u, hu => by
    simp only [obC, List.mem_cons] at hu
    rcases hu with rfl | rfl | rfl | hu
    · rfl
    · exact h _ (by simp)
    · rfl
    · exact obC_one xs gs (fun g hg => h g (by simp [hg])) u hu
  | [], _, _, u, hu => by simp [obC] at hu
  | _ :: _, [], _, u, hu => by simp [obC] at hu
/-- The rows of fields, each with its value. -/
def FldL (B : Nat) (w : World) (gs : List Value) (xs : List ObP) : Prop := gs.length = xs.length ∧ ∀ j (hj : j < xs.length), ∃ g, gs[j]? = some g ∧ OutAt B w g xs[j].flds
theorem FldL.one {B : Nat} {w : World} {gs : List Value} {xs : List ObP} (h : FldL B w gs xs) : ∀ g ∈ gs, g.oneCell' = true := fun g hg => by
  obtain ⟨j, hj, rfl⟩ := List.mem_iff_getElem.1 hg
  obtain ⟨g, h1, h2⟩ := h.2 j (by rw [← h.1]; exact hj)
  rw [List.getElem?_eq_getElem hj] at h1
  injection h1 with h1
  rw [h1]
  obtain ⟨a, c, e⟩ := own_slice h2
  rw [e]
  exact slice_one _ _ _
theorem FldL.kept {B : Nat} {w w' : World} {gs : List Value} {xs : List ObP} (h : FldL B w gs xs) (hk : ∀ (k : Nat) (cur : Array Value), w.heap[k]? = some (Obj.cells cur 2 (0, 0)) → w'.heap[k]? = w.heap[k]?) : FldL B w' gs xs := ⟨h.1, fun j hj => by
  obtain ⟨g, h1, h2⟩ := h.2 j hj
  refine ⟨g, h1, own_kept h2 fun k q => ?_⟩
  obtain ⟨cur, hc⟩ := own_tag h2 q
  exact hk k cur hc⟩
theorem FldL.snoc {B : Nat} {w : World} {gs : List Value} {xs : List ObP} {g : Value} {x : ObP} (h : FldL B w gs xs) (hg : OutAt B w g x.flds) : FldL B w (gs ++ [g]) (xs ++ [x]) := ⟨by simp [h.1], fun j hj => by
  by_cases e : j < xs.length
  · obtain ⟨g', h1, h2⟩ := h.2 j e
    exact ⟨g', by rw [List.getElem?_append_left (by rw [h.1]; exact e)]; exact h1, by rw [List.getElem_append_left e]; exact h2⟩
  · have ej : j = xs.length := by simp at hj; omega
    subst ej
    refine ⟨g, ?_, ?_⟩
    · rw [← h.1]; simp
    · simp only [List.getElem_append_right (Nat.le_refl _), Nat.sub_self, List.getElem_cons_zero]
      exact hg⟩
/-- Where the copying stands. -/
structure AtS (w1 wr : World) (s : StM) (R ob : Nat) (xs : List ObP) (out q : Value) (gs : List Value) : Prop where
  hb : Below w1.heap.size w1 wr
  ge : w1.heap.size ≤ ob
  blk : wr.heap[ob]? = some (.cells #[out, .slice (some ⟨R, 0, none⟩) 8 8, .bool s.cyc, q] 34 (0, 0))
  qa : OutAt w1.heap.size wr q s.row
  row : wr.ownsRow w1.heap.size 38 3 out xs.length (obC xs gs)
  go : FldL w1.heap.size wr gs xs
/-- The region that begins the answer: each operation's value. -/
def atV (w1 : World) (s : StM) (R : Nat) (L : List Value) : Nat → Value → Nat → Nat → World → Prop
  | 8, v, _, _, W => ∃ b, v = .slice (some ⟨b, 0, none⟩) 0 0 ∧ W.ownsRow w1.heap.size 2 1 v 0 []
  | 13, v, _, _, W => OutAt w1.heap.size W v s.row
  | 14, v, _, _, W => ∃ q, v = .agg #[.slice none 0 0, .slice (some ⟨R, 0, none⟩) 8 8, .bool s.cyc, q] ∧ OutAt w1.heap.size W q s.row
  | 15, v, lo, _, W => v = .pointer (some ⟨lo, 0, none⟩) ∧ W.heap[lo]? = some (.cells #[.slice none 0 0, .slice none 0 0, .bool false, .slice none 0 0] 34 (0, 0))
  | i, v, _, _, _ => v = L.getD i undef
theorem own_belowO {B e size : Nat} {w w' : World} {v : Value} {n : Nat} {xs : List Value} (h : w.ownsRow B e size v n xs) (hb : Below w.heap.size w w') : w'.ownsRow B e size v n xs := own_kept h fun k q => hb.block k (World.ownsRow.lt h k q).2
theorem atV_below (w1 : World) (s : StM) (R : Nat) (L : List Value) : ∀ i v lo hi w w', Below w.heap.size w w' → hi ≤ w.heap.size → atV w1 s R L i v lo hi w → atV w1 s R L i v lo hi w' := fun i v lo hi w w' hb hh h => by
  unfold atV at h ⊢
  split at h
  · obtain ⟨b, h1, h2⟩ := h
    exact ⟨b, h1, own_belowO h2 hb⟩
  · exact own_belowO h hb
  · obtain ⟨q, h1, h2⟩ := h
    exact ⟨q, h1, own_belowO h2 hb⟩
  · exact ⟨h.1, (hb.block _ (lt_of h.2)).trans h.2⟩
  · simp_all
theorem out_src {B : Nat} {w : World} {v : Value} {zs : List Int} (h : OutAt B w v zs) : SrcAt w 1 v zs.length (intsV zs) := by
  have h0 := h
  rcases h.2 with ⟨rfl, q⟩ | ⟨g, cap, cur, rfl, hb, hg, h1, _, hsz, htk⟩
  · have : zs = [] := List.eq_nil_of_length_eq_zero q
    subst this
    exact .inl ⟨rfl, rfl, rfl⟩
  · refine .inr ⟨⟨g, 0, none⟩, cap, rfl, by simp [intsV], fun j u hj => ?_⟩
    rw [Addr.add_lit]
    have hl : j < zs.length := by have := (List.getElem?_eq_some_iff.1 hj).1; simpa [intsV] using this
    rw [Nat.zero_add, OutAt.cell h0 hl]
    simpa [intsV, hl] using hj
theorem AtS.below {w1 w w' : World} {s : StM} {R ob : Nat} {xs : List ObP} {out q : Value} {gs : List Value} (h : AtS w1 w s R ob xs out q gs) (hb : Below w.heap.size w w') : AtS w1 w' s R ob xs out q gs :=
  ⟨below_on2 h.hb hb, h.ge, (hb.block _ (lt_of h.blk)).trans h.blk, own_belowO h.qa hb, own_belowO h.row hb, h.go.kept fun k cur hc => hb.block k (lt_of hc)⟩
theorem AtS.start {w1 W : World} {s : StM} {R ob : Nat} {q : Value} {c : Array Value} (hB : Below w1.heap.size w1 W) (hb : W.heap[ob]? = some (.cells c 34 (0, 0))) (hq : OutAt w1.heap.size W q s.row) (hge : w1.heap.size ≤ ob) : AtS w1 (W.setRow ob #[.slice none 0 0, .slice (some ⟨R, 0, none⟩) 8 8, .bool s.cyc, q]) s R ob [] (.slice none 0 0) q [] :=
  ⟨AtSet hB hge, hge, setRow_heap _ _ _ _ _ _ hb, own_kept hq fun k hk => by
    obtain ⟨cur, hc⟩ := own_tag hq hk
    exact setRow_other _ _ _ _ (tag_ne hc hb (by decide)), ⟨rfl, .inl ⟨rfl, rfl⟩⟩, ⟨rfl, fun j hj => by simp at hj⟩⟩
theorem AtS.next {w1 W w7 : World} {s : StM} {R ob : Nat} {xs : List ObP} {out q out' fv : Value} {gs : List Value} {o : Obj} {x : ObP} (h : AtS w1 W s R ob xs out q gs) (hf : OutAt w1.heap.size W fv x.flds)
    (hg : (W.alloc o).grownBy w7 out.ownBlock) (hr : w7.ownsRow w1.heap.size 38 3 out' (xs.length + 1) (obC xs gs ++ [.int .i64 x.id, fv, .int .i64 x.col])) : w7.heap[ob]? = some (.cells #[out, .slice (some ⟨R, 0, none⟩) 8 8, .bool s.cyc, q] 34 (0, 0)) ∧ AtS w1 (w7.setCell ⟨ob, 0, none⟩ out') s R ob (xs ++ [x]) out' q (gs ++ [fv]) := by
  have hs6 : (W.alloc o).heap.size = W.heap.size + 1 := World.size_alloc _ _
  have hB6 : Below w1.heap.size w1 (W.alloc o) := below_on2 h.hb (below_1 W o)
  have k6 : ∀ k c t, W.heap[k]? = some (Obj.cells c t (0, 0)) → t ≠ 38 → w7.heap[k]? = W.heap[k]? := fun k c t hk ht => by
    rw [hg.block k (by have := lt_of hk; omega) fun e => ?_]
    · exact Below.heap_alloc _ _ _ (lt_of hk)
    · obtain ⟨cur, hc⟩ := own_tag h.row e.symm
      exact tag_ne hk hc ht rfl
  have kb : w7.heap[ob]? = _ := (k6 ob _ 34 h.blk (by decide)).trans h.blk
  have k8 : ∀ k (c : Array Value) t, w7.heap[k]? = some (Obj.cells c t (0, 0)) → t ≠ 34 → (w7.setCell ⟨ob, 0, none⟩ out').heap[k]? = w7.heap[k]? := fun k c t hk ht => set_other _ (tag_ne hk kb ht)
  have kk : ∀ k (c : Array Value), W.heap[k]? = some (Obj.cells c 2 (0, 0)) → (w7.setCell ⟨ob, 0, none⟩ out').heap[k]? = W.heap[k]? := fun k c hk => (k8 k c 2 ((k6 k c 2 hk (by decide)).trans hk) (by decide)).trans (k6 k c 2 hk (by decide))
  refine ⟨kb, ?_, h.ge, ?_, own_kept h.qa fun k hk => ?_, ?_, ?_⟩
  · exact (hB6.grown hg hB6.size fun j hj => (World.ownsRow.lt h.row j hj).1).setCell (p := ⟨ob, 0, none⟩) h.ge _
  · have := set_same (j := 0) out' kb
    simpa using this
  · obtain ⟨cur, hc⟩ := own_tag h.qa hk
    exact kk k cur hc
  · rw [List.length_append, obC_snoc _ _ _ _ h.go.1]
    refine own_kept hr fun k hk => ?_
    obtain ⟨cur, hc⟩ := own_tag hr hk
    exact k8 k cur 38 hc (by decide)
  · refine (h.go.kept kk).snoc (own_kept hf fun k hk => ?_)
    obtain ⟨cur, hc⟩ := own_tag hf hk
    exact kk k cur hc
theorem AtS.obj {w1 w : World} {s : StM} {R ob : Nat} {xs : List ObP} {out q : Value} {gs : List Value} (h : AtS w1 w s R ob xs out q gs) : ObjR w1.heap.size w.heap.size w out xs := ⟨own_slice h.row, fun j hj => by
  obtain ⟨g, c, e⟩ := own_some h.row (by omega)
  obtain ⟨gv, h1, h2⟩ := h.go.2 j hj
  have hl := World.ownsRow.lt h.row g (by rw [e]; rfl)
  have hgl : j < gs.length := by rw [h.go.1]; exact hj
  refine ⟨g, 0, c, gv, e, hl.1, hl.2, fun i u hu => ?_, out_ints h2⟩
  have e2 : gv = gs[j]'hgl := by rw [List.getElem?_eq_getElem hgl] at h1; injection h1 with h1; exact h1.symm
  rw [e2] at hu
  have hc := obC_get xs gs j hj h.go.1 i u hu
  have hrow := h.row
  rw [e] at hrow
  have hil : j * 3 + i < (obC xs gs).length := (List.getElem?_eq_some_iff.1 hc).1
  rw [show 0 + j * 3 + i = j * 3 + i by omega, World.ownsRow.cellAt hrow (j * 3 + i) (by rw [obC_length _ _ h.go.1] at hil; exact hil)]
  exact hc⟩
theorem SpW.objAt {w : World} {F : Nat → Prop} {H R n c m : Nat} {s : StM} {ps fs : List Nat} {oa : Option Addr} {qv : Value} (h : SpW w F H s ps fs (.slice oa n c) R qv) (hm : m < (obsP s.obs).length) :
    ∃ g p f, oa = some ⟨g, 0, none⟩ ∧ w.cell? ⟨g, m, none⟩ = some (.pointer (some ⟨p, 0, none⟩)) ∧ w.heap[p]? = some (.cells #[.int .i64 (obsP s.obs)[m].id, .slice (some ⟨f, 0, none⟩) (obsP s.obs)[m].flds.length (obsP s.obs)[m].flds.length, .int .i64 (obsP s.obs)[m].col] 38 (0, 0)) ∧ w.heap[f]? = some (.cells (intsV (obsP s.obs)[m].flds).toArray 2 (0, 0)) := by
  have hm2 : m < (therL s.obs).length := by rw [← obsP_length]; exact hm
  have how := h.ow
  obtain ⟨g, c', e⟩ := own_some how (by omega)
  rw [e] at how
  injection e with e _ _
  obtain ⟨o, ho1, _⟩ := therL_at hm2
  have ha := h.ob.at_ _ _ ho1
  refine ⟨g, ps.getD (therL s.obs)[m] 0, fs.getD (therL s.obs)[m] 0, e, ?_, ?_, ?_⟩
  · rw [World.ownsRow.cellAt how m (by omega)]
    simp [ptrsP, hm2]
  · rw [obsP_get hm, obP_some ho1]
    exact ha.blk
  · rw [obsP_get hm, obP_some ho1]
    exact ha.row
theorem obsP_six {obs : List ObM} (h : ∀ o ∈ obs, o.flds.length ≤ 6) : ∀ x ∈ obsP obs, x.flds.length ≤ 6 := fun x hx => by
  obtain ⟨i, hi, rfl⟩ := List.mem_map.1 hx
  obtain ⟨o, ho, _⟩ := mem_therL.1 hi
  rw [obP_some ho]
  exact h o (List.mem_of_getElem? ho)
theorem AtS.fin {w w1 wr : World} {F : Nat → Prop} {H R ob : Nat} {s : StM} {ps fs : List Nat} {ov qv out q : Value} {gs : List Value} {cs : Array Value} (hrl : s.roots.length = 8) (h : AtS w1 wr s R ob (obsP s.obs) out q gs) (hS : SpW w1 F H s ps fs ov R qv) (hF : ∀ k, k < w.heap.size + 1 → F k) (hb : Below w.heap.size w w1) :
    HpR w.heap.size (wr.setRow w.heap.size cs).heap.size (wr.setRow w.heap.size cs) out (.slice (some ⟨R, 0, none⟩) 8 8) q (obsP s.obs) s.roots s.row ∧ Below w.heap.size w (wr.setRow w.heap.size cs) := by
  have hw1 : w.heap.size < w1.heap.size := hS.lo.2.2 _ (hF _ (by omega))
  have hR : w.heap.size + 1 ≤ R := by
    rcases Nat.lt_or_ge R (w.heap.size + 1) with q | q
    · exact absurd (hF _ q) hS.lo.2.1
    · exact q
  have hS2 := (hS.below h.hb)
  have hsame : Same w1.heap.size wr.heap.size wr (wr.setRow w.heap.size cs) := SameSet (.inl (by omega))
  have hz : (wr.setRow w.heap.size cs).heap.size = wr.heap.size := setRow_size _ _ _
  refine ⟨⟨?_, ?_, ?_⟩, AtSet (hb.trans (h.hb.mono hb.size)) (Nat.le_refl _)⟩
  · rw [hz]
    exact (h.obj.kept hsame).mono hb.size (Nat.le_refl _)
  · rw [hz]
    have hrt : (wr.setRow w.heap.size cs).heap[R]? = some (.cells (intsV s.roots).toArray 2 (0, 0)) := (setRow_other _ _ _ _ (by omega)).trans hS2.rt
    refine .inr ⟨R, 8, by rw [hrl], by omega, lt_of hS2.rt, ?_, fun j hj => ?_⟩
    · have := there_heap hrt
      simpa [intsV] using this
    · exact cell_of hrt (by simp [intsV, hj])
  · rw [hz]
    exact ((out_ints h.qa).kept hsame).mono hb.size (Nat.le_refl _)
/-- What can be read of an answer in any later world. -/
def TellM (W : World) (o r q : Value) (x : HpM) : Prop :=
  (∃ a0 c0, o = .slice a0 x.os.length c0 ∧ x.os.length ≤ c0 ∧ ∀ k (hk : k < x.os.length), ∃ b0 fa fc, a0 = some ⟨b0, 0, none⟩ ∧ x.os[k].flds.length ≤ fc ∧ ∀ W', Below W.heap.size W W' → W'.rangeAt b0 (k * 3) [.int .i64 x.os[k].id, .slice fa x.os[k].flds.length fc, .int .i64 x.os[k].col] ∧ SrcAt W' 1 (.slice fa x.os[k].flds.length fc) x.os[k].flds.length (intsV x.os[k].flds)) ∧
  (∃ a1 c1, r = .slice a1 x.rs.length c1 ∧ ∀ W', Below W.heap.size W W' → SrcAt W' 1 (.slice a1 x.rs.length c1) x.rs.length (intsV x.rs)) ∧ ∃ a3 c3, q = .slice a3 x.qs.length c3
theorem AtS.tell {w w1 wr : World} {F : Nat → Prop} {H R ob : Nat} {s : StM} {ps fs : List Nat} {ov qv out q : Value} {gs : List Value} {cs : Array Value} (hrl : s.roots.length = 8) (h : AtS w1 wr s R ob (obsP s.obs) out q gs) (hS : SpW w1 F H s ps fs ov R qv) (hF : ∀ k, k < w.heap.size + 1 → F k) :
    TellM (wr.setRow w.heap.size cs) out (.slice (some ⟨R, 0, none⟩) 8 8) q (hpOf s) := by
  have hw1 : w.heap.size < w1.heap.size := hS.lo.2.2 _ (hF _ (by omega))
  have hR : w.heap.size + 1 ≤ R := by
    rcases Nat.lt_or_ge R (w.heap.size + 1) with q | q
    · exact absurd (hF _ q) hS.lo.2.1
    · exact q
  have hz : (wr.setRow w.heap.size cs).heap.size = wr.heap.size := setRow_size _ _ _
  have hk : ∀ W', Below (wr.setRow w.heap.size cs).heap.size (wr.setRow w.heap.size cs) W' → ∀ k, w.heap.size < k → k < wr.heap.size → W'.heap[k]? = wr.heap[k]? := fun W' hb k h1 h2 => (hb.block k (by omega)).trans (setRow_other _ _ _ _ (by omega))
  refine ⟨?_, ⟨some ⟨R, 0, none⟩, 8, by show _ = Value.slice _ s.roots.length _; rw [hrl], fun W' hb => ?_⟩, ?_⟩
  · obtain ⟨a0, c0, e⟩ := own_slice h.row
    refine ⟨a0, c0, e, by have := h.row; rw [e] at this; exact own_cap this, fun k hk2 => ?_⟩
    have hk2 : k < (obsP s.obs).length := hk2
    obtain ⟨g, c, e2⟩ := own_some h.row (by omega)
    rw [e2] at e
    injection e with e _ _
    obtain ⟨gv, h1, h2⟩ := h.go.2 k hk2
    obtain ⟨fa, fc, e3⟩ := own_slice h2
    have hl := World.ownsRow.lt h.row g (by rw [e2]; rfl)
    have hgl : k < gs.length := by rw [h.go.1]; exact hk2
    refine ⟨g, fa, fc, e.symm, by rw [e3] at h2; exact own_cap h2, fun W' hb => ⟨fun i u hu => ?_, ?_⟩⟩
    · have eg : gv = gs[k]'hgl := by rw [List.getElem?_eq_getElem hgl] at h1; injection h1 with h1; exact h1.symm
      have hu : [Value.int .i64 (obsP s.obs)[k].id, .slice fa (obsP s.obs)[k].flds.length fc, .int .i64 (obsP s.obs)[k].col][i]? = some u := hu
      rw [← e3, eg] at hu
      have hc := obC_get (obsP s.obs) gs k hk2 h.go.1 i u hu
      have hrow : W'.ownsRow w1.heap.size 38 3 out (obsP s.obs).length (obC (obsP s.obs) gs) := own_kept h.row fun j hj => hk W' hb j (by have := World.ownsRow.lt h.row j hj; omega) (World.ownsRow.lt h.row j hj).2
      rw [e2] at hrow
      have hil : k * 3 + i < (obC (obsP s.obs) gs).length := (List.getElem?_eq_some_iff.1 hc).1
      rw [World.ownsRow.cellAt hrow (k * 3 + i) (by rw [obC_length _ _ h.go.1] at hil; exact hil)]
      exact hc
    · show SrcAt W' 1 (.slice fa (obsP s.obs)[k].flds.length fc) (obsP s.obs)[k].flds.length (intsV (obsP s.obs)[k].flds)
      rw [← e3]
      exact out_src (own_kept h2 fun j hj => hk W' hb j (by have := World.ownsRow.lt h2 j hj; omega) (World.ownsRow.lt h2 j hj).2)
  · have hrt : W'.heap[R]? = some (.cells (intsV s.roots).toArray 2 (0, 0)) := (hk W' hb R (by omega) (lt_of (hS.below h.hb).rt)).trans (hS.below h.hb).rt
    refine .inr ⟨⟨R, 0, none⟩, 8, rfl, by simp [intsV, hpOf], fun j u hj => ?_⟩
    rw [Addr.add_lit, Nat.zero_add]
    exact cell_of hrt (by simpa [hpOf] using hj)
  · obtain ⟨a3, c3, e⟩ := own_slice h.qa
    exact ⟨a3, c3, e⟩
/-- Where the specification's run stands, its answer's box kept. -/
def RunT (w wr : World) (H R : Nat) (s : StM) : Prop := (∃ ps fs ov qv, SpW wr (fun k => k < w.heap.size + 1) H s ps fs ov R qv) ∧ Below w.heap.size w wr ∧ wr.heap[w.heap.size]? = some (.cells #[.slice none 0 0, .slice none 0 0, .bool false, .slice none 0 0] 34 (0, 0))
set_option maxRecDepth 100000 in
set_option maxHeartbeats 2000000 in
theorem specAtF_calls (w : World) (mode : Int) (ops : List OpM) (v : Value) (own : Bool) (lo hi : Nat) (h : ListAt MopR 4 own lo hi w v ops) (hh : hi ≤ w.heap.size) (hl : ops.length ≤ 1048576) :
    Calls Try.prog 9 #[.int .i64 mode, v] w fun e w' => ∃ o r q, e = .returned (.agg #[o, r, .bool (atM mode ops).cyc, q]) ∧ HpR w.heap.size w'.heap.size w' o r q (atM mode ops).os (atM mode ops).rs (atM mode ops).qs ∧ Below w.heap.size w w' ∧ TellM w' o r q (atM mode ops) := by
  obtain ⟨va, vc, rfl⟩ := h.form
  have hok : Hid (∀ W, Calls Try.prog 21 #[.int .i64 mode, .slice va ops.length vc] W fun e w' => e = .returned (.bool (runOk mode ops.length)) ∧ w' = W) := fun W => okS_calls mode va ops.length vc W
  have hops : Hid (∀ W, Below w.heap.size w W → ∀ j (hj : j < ops.length), ∃ b off, va = some ⟨b, off, none⟩ ∧ W.rangeAt b (off + j * 4) [.int .i64 ops[j].kind, .int .i64 ops[j].a, .int .i64 ops[j].b, .int .i64 ops[j].c]) := fun W hW j hj => by
    obtain ⟨b, off, row, e, _, _, hr, hx⟩ := (h.kept MopR.stable (Nat.le_refl _) (Nat.le_refl _) ((Same.below hW).mono (Nat.zero_le _) hh)).at j hj
    have hx : row = _ := hx
    rw [hx] at hr
    exact ⟨b, off, e, hr⟩
  obtain ⟨q, hq⟩ : ∃ q, q = runOk mode ops.length := ⟨_, rfl⟩
  have hqH : Hid (q = runOk mode ops.length) := hq
  rw [← hq] at hok
  obtain ⟨W0, hW0⟩ : ∃ W0, W0 = w.alloc (.cells #[.slice none 0 0, .slice none 0 0, .bool false, .slice none 0 0] 34) := ⟨_, rfl⟩
  have hB0 : Below w.heap.size w W0 := by rw [hW0]; exact below_1 _ _
  have hs0 : W0.heap.size = w.heap.size + 1 := by rw [hW0]; exact World.size_alloc _ _
  have hbx : W0.heap[w.heap.size]? = some (.cells #[.slice none 0 0, .slice none 0 0, .bool false, .slice none 0 0] 34 (0, 0)) := by rw [hW0]; exact heap_alloc_new w _
  have hl' : (ops.length : Int) ≤ 1048576 := by omega
  clear h hq
  cases q with
  | false =>
    have hA : Hid (atM mode ops = ⟨[], [], false, []⟩) := by show _ = _; unfold atM; rw [← hqH.out]; rfl
    have hfin : Hid (Below w.heap.size w (W0.setRow w.heap.size #[.slice none 0 0, .slice none 0 0, .bool false, .slice none 0 0])) := AtSet hB0 (Nat.le_refl _)
    go_enter Try.func9, Try.ntmps9
    go_upto_region 1 with fail
    rw [← hW0]
    clear hW0
    go_wp2_with (first
      | (go_at_call 21; refine (show Calls _ _ _ _ _ from hok.out _).mono ?_; rintro e W1 ⟨rfl, hw⟩; subst hw)
      | (refine wpList_store_row rfl 34 _ _ rfl w.heap.size #[.slice none 0 0, .slice none 0 0, .bool false, .slice none 0 0] rfl rfl 34 _ hbx (by kernel_rfl) rfl (all_oneCell_toArray (cs := [.slice none 0 0, .slice none 0 0, .bool false, .slice none 0 0]) (by simp [Value.oneCell'])) ?_))
    (try simp only [Exit.inBlock, Exit.then])
    refine bodyPost_ret (v := .agg #[.slice none 0 0, .slice none 0 0, .bool false, .slice none 0 0]) (results_cell_row rfl _ _ w.heap.size 34 #[.slice none 0 0, .slice none 0 0, .bool false, .slice none 0 0] (0, 0) _ rfl (setRow_heap _ _ _ _ _ _ hbx) Try.underlying34 rfl (by kernel_rfl)) rfl ?_
    rw [hA.out]
    exact ⟨_, _, _, rfl, ⟨⟨⟨_, _, rfl⟩, fun j hj => by simp at hj⟩, .inl ⟨rfl, _, _, rfl⟩, .inl ⟨rfl, _, _, rfl⟩⟩, hfin.out, ⟨none, 0, rfl, Nat.le_refl _, fun k hk => by simp at hk⟩, ⟨none, 0, rfl, fun W' _ => .inl ⟨rfl, rfl, rfl⟩⟩, ⟨none, 0, rfl⟩⟩
  | true =>
    have hA : Hid (atM mode ops = hpOf (runM (newM mode) ops) ∧ (mode = 1 ∨ mode = 2) ∧ ops.length ≤ 500) := by
      have := hqH.out
      refine ⟨by unfold atM; rw [← this]; rfl, ?_⟩
      simp [runOk] at this
      exact this
    have hGd : Hid (∀ m, GoodM (runM (newM mode) (ops.take m))) := fun m => (GoodM.new hA.out.2.1).run _
    have hnw : Hid (Calls Try.prog 22 #[.int .i64 mode] W0 fun e w' => ∃ H R, e = .returned (.pointer (some ⟨H, 0, none⟩)) ∧ RunT w w' H R (runM (newM mode) (ops.take 0))) := (newS_calls W0 mode).mono fun e w' ⟨H, R, he, hI, hB⟩ => ⟨H, R, he, ⟨_, _, _, _, by rw [hs0] at hI; exact hI⟩, below_on2 hB0 hB, (hB.block _ (by omega)).trans hbx⟩
    have hst : Hid (∀ (wr : World) (H R m : Nat) (hm : m < ops.length), RunT w wr H R (runM (newM mode) (ops.take m)) → Calls Try.prog 23 #[.pointer (some ⟨H, 0, none⟩), opV ops[m]] wr fun e w' => ∃ v, e = .returned (.agg v) ∧ RunT w w' H R (runM (newM mode) (ops.take (m + 1)))) := fun wr H R m hm ⟨⟨ps, fs, ov, qv, hI⟩, hB, hx⟩ => by
      refine (do_calls wr _ H _ ps fs ov R qv ops[m] hI (hGd.out m)).mono ?_
      rintro e w' ⟨gv, he, ho, ⟨ps', fs', ov', qv', hI'⟩, hK⟩
      refine ⟨_, he, ⟨ps', fs', ov', qv', ?_⟩, hB.trans (hK.to (B := w.heap.size) (fun k hk => by omega)), ?_⟩
      · rw [ops_snoc hm, runM_snoc]
        exact hI'.unbox fun k hk => .inl hk
      · exact (hK.block _ (by omega)).trans hx
    clear hqH hs0 hB0 hbx
    obtain ⟨s, hs⟩ : ∃ s, s = runM (newM mode) ops := ⟨_, rfl⟩
    have hsE : Hid (s = runM (newM mode) ops) := hs
    rw [hA.out.1, ← hs]
    clear hs
    go_enter Try.func9, Try.ntmps9
    go_upto_region 1 with fail
    rw [← hW0]
    clear hW0
    go_wp2_with (first
      | (go_at_call 21; refine (show Calls _ _ _ _ _ from hok.out _).mono ?_; rintro e W1 ⟨rfl, hw⟩; subst hw)
      | (go_at_call 22; refine (show Calls _ _ _ _ _ from hnw.out).mono ?_; rintro e W2 ⟨H, R, rfl, hR⟩; have hRH : Hid _ := hR; clear hR))
    clear hok hnw
    go_loopw [6] (fun i wr => ∃ m : Nat, m ≤ ops.length ∧ i = .int .i64 m ∧ Hid (RunT w wr H R (runM (newM mode) (ops.take m)))) (fun i _ => ops.length - (intOf i).toNat)
    case atStart => exact ⟨0, Nat.zero_le _, rfl, hRH⟩
    case round =>
      clear hRH
      obtain ⟨m, hm, rfl, hR⟩ := hrel
      have hm0 : (0 : Int) ≤ m := by omega
      by_cases hlt : m < ops.length
      · have hlt' : (m : Int) < (ops.length : Int) := by omega
        obtain ⟨b, off, rfl, hrg⟩ := hops.out wr hR.out.2.1 m hlt
        have hdo := hst.out wr H R m hlt hR.out
        have c0 : wr.cell? ⟨b, off + m * 4, none⟩ = some (.int .i64 ops[m].kind) := hrg 0 _ rfl
        have c1 : wr.cell? ⟨b, off + m * 4 + 1, none⟩ = some (.int .i64 ops[m].a) := hrg 1 _ rfl
        have c2 : wr.cell? ⟨b, off + m * 4 + 2, none⟩ = some (.int .i64 ops[m].b) := hrg 2 _ rfl
        have c3 : wr.cell? ⟨b, off + m * 4 + 3, none⟩ = some (.int .i64 ops[m].c) := hrg 3 _ rfl
        have hm5 : m < 500 := by have := hA.out.2.2; omega
        unfold opV at hdo
        clear hrg hR hops hst hGd hA
        generalize ops[m] = op at *
        obtain ⟨okd, oka, okb, okc⟩ := op
        have hdoH : Hid _ := hdo
        clear hdo
        simp only at c0 c1 c2 c3 hdoH
        go_wp2_with (go_at_call 23; refine (show Calls _ _ _ _ _ from hdoH.out).mono ?_; rintro e W3 ⟨v3, rfl, hR3⟩; have hR3H : Hid _ := hR3; clear hR3)
        go_roundw
        case rel => exact ⟨m + 1, by omega, by go_num, hR3H⟩
        case measure => simp [intOf]; omega
      · have hge : ¬ ((m : Int) < (ops.length : Int)) := by omega
        have hmE : m = ops.length := by omega
        have hR2 : RunT w wr H R (runM (newM mode) ops) := by have := hR.out; rwa [hmE, List.take_length] at this
        have hgd : GoodM (runM (newM mode) ops) := (GoodM.new hA.out.2.1).run _
        rw [← hsE.out] at hR2 hgd
        clear hR hops hst hGd hA hsE hmE hge hm0
        obtain ⟨⟨ps, fs, ov, qv, hS⟩, hB1, hx1⟩ := hR2
        have hSH : Hid (SpW wr (fun k => k < w.heap.size + 1) H s ps fs ov R qv) := hS
        have hB1H : Hid (Below w.heap.size w wr) := hB1
        have hx1H : Hid _ := hx1
        have hgdH : Hid (GoodM s) := hgd
        obtain ⟨qa, qc, rfl⟩ := own_slice hS.ro
        obtain ⟨oa, oc, rfl⟩ := own_slice hS.ow
        clear hS hB1 hx1 hgd
        obtain ⟨i9, hi9, hz9, hs9, hb9⟩ := int_info
        obtain ⟨w1, hw1⟩ : ∃ w1, w1 = wr := ⟨_, rfl⟩
        subst hw1
        have hce : Hid (∀ W, Below w1.heap.size w1 W → W.cell? ⟨H, 2, none⟩ = some (.slice (some ⟨R, 0, none⟩) 8 8) ∧ W.cell? ⟨H, 3, none⟩ = some (.bool s.cyc) ∧ W.cell? ⟨H, 4, none⟩ = some (.slice qa s.row.length qc)) := fun W hW => by
          have hb := (hSH.out.below hW).blk
          exact ⟨cell_of hb rfl, cell_of hb rfl, cell_of hb rfl⟩
        have hqs : Hid (∀ W, Below w1.heap.size w1 W → SrcAt W 1 (.slice qa s.row.length qc) s.row.length (intsV s.row)) := fun W hW => out_src (hSH.out.below hW).ro
        have hrl : Hid (s.row.length ≤ 400) := by have h1 := hgdH.out.inv.rowlen; have h2 := hgdH.out.len; show _ ≤ _; omega
        have hnl : Hid ((obsP s.obs).length = (therL s.obs).length ∧ (obsP s.obs).length ≤ 400) := ⟨obsP_length _, by have h1 := therL_len s.obs; have h2 := hgdH.out.len; rw [obsP_length]; omega⟩
        have hfl : Hid (∀ x ∈ obsP s.obs, x.flds.length ≤ 6) := obsP_six hgdH.out.fl
        go_upto_region 8 with fail
        refine wp_region_tail (by kernel_rfl) (fun vs => { tmps := #[.int .i64 mode, .slice va ops.length vc, undef, undef, .pointer (some ⟨w.heap.size, 0, none⟩), .pointer (some ⟨H, 0, none⟩), .int .i64 m, vs 15, undef, undef, .int .i64 mode, .slice va ops.length vc, .bool true, .bool false, undef, .int .i64 mode, .pointer (some ⟨H, 0, none⟩), .int .i64 m, .slice va ops.length vc, .int .i64 ops.length, .bool false, u21, u22, u23, u24, u25, u26, u27, u28, vs 0, vs 1, vs 2, vs 3, vs 4, vs 5, vs 6, vs 7, vs 8, vs 9, vs 10, vs 11, vs 12, vs 13, vs 14, undef, undef, undef, undef, undef, undef, undef, undef, undef, undef, undef, undef, undef, undef, undef, undef, undef, undef, undef, undef, undef, undef, undef, undef, undef, undef, undef, undef, undef, undef], defers := [] }) (atV w1 s R [.pointer (some ⟨H, 0, none⟩), .pointer (some ⟨H, 0, none⟩), .pointer (some ⟨H, 2, none⟩), .slice (some ⟨R, 0, none⟩) 8 8, .pointer (some ⟨H, 0, none⟩), .pointer (some ⟨H, 0, none⟩), .pointer (some ⟨H, 3, none⟩), .bool s.cyc, undef, .pointer (some ⟨H, 0, none⟩), .pointer (some ⟨H, 0, none⟩), .pointer (some ⟨H, 4, none⟩), .slice qa s.row.length qc, undef, undef, undef, undef]) (fun _ => none) (fun i i' j h h' => by simp at h) (fun i j h => by simp at h) (fun i => undef) rfl (by kernel_rfl) (atV_below _ _ _ _) (allAt_all ⟨?_, ?_, ?_, ?_, ?_, ?_, ?_, ?_, ?_, ?_, ?_, ?_, ?_, ?_, ?_, ?_, ?_, trivial⟩) ?_
        case refine_1 =>
          intro _ vs lo hi W hB hv
          clear hv
          go_wp2
          exact RegPost.own (.pointer (some ⟨H, 0, none⟩)) (by rfl) (Below.refl _ _) rfl
        case refine_2 =>
          intro _ vs lo hi W hB hv
          have e0 : vs 0 = .pointer (some ⟨H, 0, none⟩) := (hv ⟨0, .data⟩ (by simp) rfl).1
          clear hv
          simp only [e0]
          go_wp2
          exact RegPost.own (.pointer (some ⟨H, 0, none⟩)) (by simp [upd, e0]) (Below.refl _ _) rfl
        case refine_3 =>
          intro _ vs lo hi W hB hv
          have e1 : vs 1 = .pointer (some ⟨H, 0, none⟩) := (hv ⟨1, .data⟩ (by simp) rfl).1
          clear hv
          simp only [e1]
          go_wp2
          exact RegPost.own (.pointer (some ⟨H, 2, none⟩)) (by simp [upd, e1]) (Below.refl _ _) rfl
        case refine_4 =>
          intro _ vs lo hi W hB hv
          have e2 : vs 2 = .pointer (some ⟨H, 2, none⟩) := (hv ⟨2, .data⟩ (by simp) rfl).1
          obtain ⟨q2, q3, q4⟩ := hce.out W hB
          clear hv
          simp only [e2]
          go_wp2
          exact RegPost.own (.slice (some ⟨R, 0, none⟩) 8 8) (by simp [upd, e2]) (Below.refl _ _) rfl
        case refine_5 =>
          intro _ vs lo hi W hB hv
          clear hv
          go_wp2
          exact RegPost.own (.pointer (some ⟨H, 0, none⟩)) (by rfl) (Below.refl _ _) rfl
        case refine_6 =>
          intro _ vs lo hi W hB hv
          have e4 : vs 4 = .pointer (some ⟨H, 0, none⟩) := (hv ⟨4, .data⟩ (by simp) rfl).1
          clear hv
          simp only [e4]
          go_wp2
          exact RegPost.own (.pointer (some ⟨H, 0, none⟩)) (by simp [upd, e4]) (Below.refl _ _) rfl
        case refine_7 =>
          intro _ vs lo hi W hB hv
          have e5 : vs 5 = .pointer (some ⟨H, 0, none⟩) := (hv ⟨5, .data⟩ (by simp) rfl).1
          clear hv
          simp only [e5]
          go_wp2
          exact RegPost.own (.pointer (some ⟨H, 3, none⟩)) (by simp [upd, e5]) (Below.refl _ _) rfl
        case refine_8 =>
          intro _ vs lo hi W hB hv
          have e6 : vs 6 = .pointer (some ⟨H, 3, none⟩) := (hv ⟨6, .data⟩ (by simp) rfl).1
          obtain ⟨q2, q3, q4⟩ := hce.out W hB
          clear hv
          simp only [e6]
          go_wp2
          exact RegPost.own (.bool s.cyc) (by simp [upd, e6]) (Below.refl _ _) rfl
        case refine_9 =>
          intro _ vs lo hi W hB hv
          clear hv
          have ho : (W.alloc (.cells #[] 2)).ownsRow W.heap.size 2 1 (.slice (some ⟨W.heap.size, 0, none⟩) 0 0) 0 [] := World.ownsRow_made W #[] 0 (Nat.le_refl _) (by unfold maxLen; omega) rfl
          go_wp2
          exact RegPost.own (.slice (some ⟨W.heap.size, 0, none⟩) 0 0) (by rfl) (below_1 _ _) ⟨_, rfl, own_mono ho hB.size⟩
        case refine_10 =>
          intro _ vs lo hi W hB hv
          clear hv
          go_wp2
          exact RegPost.own (.pointer (some ⟨H, 0, none⟩)) (by rfl) (Below.refl _ _) rfl
        case refine_11 =>
          intro _ vs lo hi W hB hv
          have e9 : vs 9 = .pointer (some ⟨H, 0, none⟩) := (hv ⟨9, .data⟩ (by simp) rfl).1
          clear hv
          simp only [e9]
          go_wp2
          exact RegPost.own (.pointer (some ⟨H, 0, none⟩)) (by simp [upd, e9]) (Below.refl _ _) rfl
        case refine_12 =>
          intro _ vs lo hi W hB hv
          have e10 : vs 10 = .pointer (some ⟨H, 0, none⟩) := (hv ⟨10, .data⟩ (by simp) rfl).1
          clear hv
          simp only [e10]
          go_wp2
          exact RegPost.own (.pointer (some ⟨H, 4, none⟩)) (by simp [upd, e10]) (Below.refl _ _) rfl
        case refine_13 =>
          intro _ vs lo hi W hB hv
          have e11 : vs 11 = .pointer (some ⟨H, 4, none⟩) := (hv ⟨11, .data⟩ (by simp) rfl).1
          obtain ⟨q2, q3, q4⟩ := hce.out W hB
          clear hv
          simp only [e11]
          go_wp2
          exact RegPost.own (.slice qa s.row.length qc) (by simp [upd, e11]) (Below.refl _ _) rfl
        case refine_14 =>
          intro _ vs lo hi W hB hv
          obtain ⟨b8, e8, h8⟩ := (show ∃ b, _ ∧ _ from (hv ⟨8, .data⟩ (by simp) rfl).1)
          have e12 : vs 12 = .slice qa s.row.length qc := (hv ⟨12, .data⟩ (by simp) rfl).1
          have hsrc : Hid _ := hqs.out W hB
          rw [e8] at h8
          have h8H : Hid _ := h8
          clear hv h8
          refine wpList_append_src0 rfl (.tmp 37) (.tmp 41) 32 rfl 2 i9 (.int .i64 0) 1 8 Try.underlying32 hi9 hz9 hs9 hb9 rfl (by omega) b8 e8 (.slice qa s.row.length qc) s.row.length (intsV s.row) e12 hsrc.out (intsV_one _) (by have := hrl.out; unfold maxLen; omega) (by have := hrl.out; omega) (fun m0 n0 => ?_) (fun v2 W2 hown hgrow => ?_)
          · refine wpList_nil ?_
            have hr0 : s.row = [] := List.eq_nil_of_length_eq_zero m0
            exact RegPost.own (.slice (some ⟨b8, 0, none⟩) 0 0) (by rfl) (Below.refl _ _) (by show OutAt _ _ _ _; rw [hr0]; exact h8H.out)
          · refine wpList_nil ?_
            exact RegPost.own v2 (by rfl) (below_of_grown hgrow (Nat.le_refl _)) (own_mono hown hB.size)
        case refine_15 =>
          intro _ vs lo hi W hB hv
          have h13 : OutAt w1.heap.size W (vs 13) s.row := (hv ⟨13, .data⟩ (by simp) rfl).1
          obtain ⟨xa, xc, e13⟩ := own_slice h13
          have e3 : vs 3 = .slice (some ⟨R, 0, none⟩) 8 8 := (hv ⟨3, .data⟩ (by simp) rfl).1
          have e7 : vs 7 = .bool s.cyc := (hv ⟨7, .data⟩ (by simp) rfl).1
          rw [e13] at h13
          have h13H : Hid _ := h13
          clear hv h13
          simp only [e3, e7, e13]
          go_wp2
          exact RegPost.own (.agg #[.slice none 0 0, .slice (some ⟨R, 0, none⟩) 8 8, .bool s.cyc, .slice xa s.row.length xc]) (by first | (rw [← e3, ← e7, ← e13]; rfl) | (simp [upd, e3, e7, e13])) (Below.refl _ _) ⟨_, rfl, h13H.out⟩
        case refine_16 =>
          intro _ vs lo hi W hB hv
          clear hv
          go_wp2
          exact RegPost.own (.pointer (some ⟨W.heap.size, 0, none⟩)) (by rfl) (below_1 _ _) ⟨rfl, heap_alloc_new W _⟩
        case refine_17 => exact fun h => absurd h (by simp)
        case refine_18 =>
          intro o ho vs lo hi W hB hv hdj
          obtain rfl := Option.some.inj ho
          obtain ⟨q, e14, hq⟩ := (show ∃ q, _ ∧ _ from (hv 14 (by simp)).1)
          obtain ⟨e15, hb15⟩ := (show _ ∧ _ from (hv 15 (by simp)).1)
          have hlo := (hv 15 (by simp)).2.1
          obtain ⟨xa, xc, rfl⟩ := own_slice hq
          generalize lo 15 = ob at *
          have hA1 : Hid (AtS w1 (W.setRow ob #[.slice none 0 0, .slice (some ⟨R, 0, none⟩) 8 8, .bool s.cyc, .slice xa s.row.length xc]) s R ob [] (.slice none 0 0) (.slice xa s.row.length xc) []) := AtS.start hB hb15 hq hlo
          clear hv hdj hq hlo hqs hce hrl hi9 hz9 hs9 hb9
          simp only [e14, e15]
          clear e14 e15
          refine wpList_store_row rfl 34 _ _ rfl ob #[.slice none 0 0, .slice (some ⟨R, 0, none⟩) 8 8, .bool s.cyc, .slice xa s.row.length xc] rfl rfl 34 _ hb15 (by kernel_rfl) rfl (all_oneCell_toArray (cs := [.slice none 0 0, .slice (some ⟨R, 0, none⟩) 8 8, .bool s.cyc, .slice xa s.row.length xc]) (by simp [Value.oneCell'])) ?_
          refine wpList_nil ?_
          clear hb15
          generalize W.setRow ob _ = W5 at *
          clear hB
          go_wp2_with fail
          go_loopw [8] (fun i wr => ∃ m : Nat, m ≤ (obsP s.obs).length ∧ i = .int .i64 m ∧ Hid (∃ out gs, AtS w1 wr s R ob ((obsP s.obs).take m) out (.slice xa s.row.length xc) gs)) (fun i _ => (obsP s.obs).length - (intOf i).toNat)
          case atStart => exact ⟨0, Nat.zero_le _, rfl, _, _, hA1.out⟩
          case round =>
            clear hA1
            obtain ⟨m, hm, rfl, hrel⟩ := hrel
            obtain ⟨out, gs, hA0⟩ := hrel.out
            have hA : Hid (AtS w1 wr s R ob ((obsP s.obs).take m) out (.slice xa s.row.length xc) gs) := hA0
            clear hrel hA0
            have hm0 : (0 : Int) ≤ m := by omega
            have hc1 : wr.cell? ⟨H, 1, none⟩ = some (.slice oa (therL s.obs).length oc) := cell_of (hSH.out.below hA.out.hb).blk rfl
            rw [← hnl.out.1] at hc1
            by_cases hlt : m < (obsP s.obs).length
            · have hlt' : (m : Int) < ((obsP s.obs).length : Int) := by omega
              obtain ⟨g, p, f, rfl, c2, hp, hf⟩ := (hSH.out.below hA.out.hb).objAt hlt
              have hx6 := hfl.out _ (List.getElem_mem hlt)
              have hnx : Hid (∀ (W w7 : World) (fv out' : Value) (o : Obj), Below wr.heap.size wr W → OutAt w1.heap.size W fv (obsP s.obs)[m].flds → (W.alloc o).grownBy w7 out.ownBlock → w7.ownsRow w1.heap.size 38 3 out' (((obsP s.obs).take m).length + 1) (obC ((obsP s.obs).take m) gs ++ [.int .i64 (obsP s.obs)[m].id, fv, .int .i64 (obsP s.obs)[m].col]) → w7.heap[ob]? = some (.cells #[out, .slice (some ⟨R, 0, none⟩) 8 8, .bool s.cyc, .slice xa s.row.length xc] 34 (0, 0)) ∧ ∃ out2 gs2, AtS w1 (w7.setCell ⟨ob, 0, none⟩ out') s R ob ((obsP s.obs).take (m + 1)) out2 (.slice xa s.row.length xc) gs2) := fun W w7 fv out' o z1 z2 z3 z4 => by
                have := (hA.out.below z1).next z2 z3 z4
                rw [show (obsP s.obs).take m ++ [(obsP s.obs)[m]] = (obsP s.obs).take (m + 1) by rw [List.take_add_one, List.getElem?_eq_getElem hlt]; rfl] at this
                exact ⟨this.1, out', _, this.2⟩
              have hrowH : Hid (∀ W, Below wr.heap.size wr W → W.ownsRow w1.heap.size 38 3 out ((obsP s.obs).take m).length (obC ((obsP s.obs).take m) gs)) := fun W hW => (hA.out.below hW).row
              have hblk : Hid (∀ W, Below wr.heap.size wr W → W.heap[ob]? = some (.cells #[out, .slice (some ⟨R, 0, none⟩) 8 8, .bool s.cyc, .slice xa s.row.length xc] 34 (0, 0))) := fun W hW => (hA.out.below hW).blk
              have htl : ((obsP s.obs).take m).length = m := by simp; omega
              rw [htl] at hnx hrowH
              obtain ⟨oua, ouc, rfl⟩ := own_slice (hrowH.out wr (Below.refl _ _))
              have hsz1 : Hid (w1.heap.size ≤ wr.heap.size) := hA.out.hb.size
              have hfw : f < wr.heap.size := lt_of hf
              have hfH : Hid (wr.heap[f]? = some (.cells (intsV (obsP s.obs)[m].flds).toArray 2 (0, 0))) := hf
              generalize (obsP s.obs)[m] = x at *
              generalize obC ((obsP s.obs).take m) gs = cs0 at *
              obtain ⟨id, flds, col⟩ := x
              simp only at hp hf hx6 hnx hfH
              clear hA hf htl
              obtain ⟨WA, hWA⟩ : ∃ WA, WA = wr.alloc (.cells #[.int .i64 id, .slice (some ⟨f, 0, none⟩) flds.length flds.length, .int .i64 col] 38) := ⟨_, rfl⟩
              have hA1 : Below wr.heap.size wr WA := by rw [hWA]; exact below_1 _ _
              have hA2 : WA.heap.size = wr.heap.size + 1 := by rw [hWA]; exact World.size_alloc _ _
              have hA3 : WA.heap[wr.heap.size]? = some (.cells #[.int .i64 id, .slice (some ⟨f, 0, none⟩) flds.length flds.length, .int .i64 col] 38 (0, 0)) := by rw [hWA]; exact heap_alloc_new wr _
              have hd0 : Hid ((WA.alloc (.cells #[] 2)).ownsRow w1.heap.size 2 1 (.slice (some ⟨WA.heap.size, 0, none⟩) 0 0) 0 []) := by
                have this : (WA.alloc (.cells #[] 2)).ownsRow WA.heap.size 2 1 (.slice (some ⟨WA.heap.size, 0, none⟩) 0 0) 0 [] := World.ownsRow_made WA #[] 0 (Nat.le_refl _) (by unfold maxLen; omega) rfl
                exact own_mono this (by have := hsz1.out; omega)
              have hsr : Hid (SrcAt (WA.alloc (.cells #[] 2)) 1 (.slice (some ⟨f, 0, none⟩) flds.length flds.length) flds.length (intsV flds)) := .inr ⟨⟨f, 0, none⟩, _, rfl, by simp [intsV], fun j u hj => by
                rw [Addr.add_lit, Nat.zero_add]
                exact cell_of (((below_on2 hA1 (below_1 WA _)).block f hfw).trans hfH.out) (by simpa using hj)⟩
              have hbs : Hid (w1.heap.size ≤ (WA.alloc (.cells #[] 2)).heap.size) := by have := hsz1.out; show _ ≤ _; rw [World.size_alloc]; omega
              have hmid : Hid (∀ (fv : Value) (W4 : World), W4.ownsRow w1.heap.size 2 1 fv (0 + flds.length) ([] ++ intsV flds) → (WA.alloc (.cells #[] 2)).grownBy W4 (Value.slice (some ⟨WA.heap.size, 0, none⟩) 0 0).ownBlock → (∃ fa fc, fv = .slice fa flds.length fc) ∧ W4.heap[wr.heap.size]? = some (.cells #[.int .i64 id, .slice (some ⟨f, 0, none⟩) flds.length flds.length, .int .i64 col] 38 (0, 0)) ∧ Below wr.heap.size wr (W4.setCell ⟨wr.heap.size, 1, none⟩ fv) ∧ OutAt w1.heap.size (W4.setCell ⟨wr.heap.size, 1, none⟩ fv) fv flds ∧ (W4.setCell ⟨wr.heap.size, 1, none⟩ fv).heap[wr.heap.size]? = some (.cells #[.int .i64 id, fv, .int .i64 col] 38 (0, 0))) := fun fv W4 h1 h2 => by
                rw [Nat.zero_add, List.nil_append] at h1
                have hb : W4.heap[wr.heap.size]? = _ := ((h2.block _ (by rw [World.size_alloc]; omega) (fun e => by simp only [Value.ownBlock, Option.some.injEq] at e; omega)).trans ((below_1 WA _).block _ (by omega))).trans hA3
                have hB4 : Below wr.heap.size wr W4 := (below_on2 hA1 (below_1 WA (.cells #[] 2))).grown h2 (by rw [World.size_alloc]; omega) (fun j hj => by simp only [Value.ownBlock, Option.some.injEq] at hj; omega)
                refine ⟨own_slice h1, hb, hB4.setCell (p := ⟨wr.heap.size, 1, none⟩) (Nat.le_refl _) _, own_kept h1 fun k hk => ?_, ?_⟩
                · obtain ⟨cur, hc⟩ := own_tag h1 hk
                  exact set_other _ (tag_ne hc hb (by decide))
                · have := set_same (j := 1) fv hb
                  simpa using this
              clear hA1 hA2 hA3
              go_upto_region 13 with (refine wpList_load_row rfl 38 _ rfl p rfl 38 _ _ _ hp Try.underlying38 rfl (by kernel_rfl) ?_)
              rw [← hWA]
              have ka : (WA.alloc (.cells #[] 2)).cell? ⟨wr.heap.size, 1, none⟩ = some (.slice (some ⟨f, 0, none⟩) flds.length flds.length) := cell_of (((below_1 WA _).block _ (by rw [hWA]; simp)).trans (by rw [hWA]; exact heap_alloc_new wr _)) rfl
              generalize wr.heap.size = bx at *
              clear hWA c2 hp hc1
              obtain ⟨i9, hi9, hz9, hs9, hb9⟩ := int_info
              go_upto_region 14 with (refine wpList_append_src rfl (.tmp 62) (.tmp 64) 32 rfl w1.heap.size 2 i9 (.int .i64 0) 1 8 Try.underlying32 hi9 hz9 hs9 hb9 rfl (by omega) _ 0 [] rfl hd0.out _ flds.length (intsV flds) rfl hsr.out (intsV_one _) (by unfold maxLen; omega) (by omega) hbs.out (fun fv W4 hown hgrow hat => ?_); obtain ⟨⟨fa, fc, rfl⟩, g1, g2, g3, g4⟩ := hmid.out fv W4 hown hgrow; have g2H : Hid _ := g2; have g3H : Hid _ := g3; have g4H : Hid _ := g4; have k4 := cell_of (j := 1) g1 rfl; have kf4 := free_of (j := 1) g1; clear hown hgrow hat g1 g2 g3 g4)
              clear k4 kf4 ka hd0 hsr hbs hmid hi9 hz9 hs9 hb9
              generalize W4.setCell ⟨bx, 1, none⟩ (.slice fa flds.length fc) = W5 at *
              obtain ⟨i8, hi8, hz8, hs8, hb8⟩ := info_parts (show (Try.prog.info? 38).map (fun i => (i.zero, i.size, i.bytes)) = some (some (.agg #[.int .i64 0, .slice none 0 0, .int .i64 0]), 3, 40) by kernel_rfl)
              have b5 := g4H.out
              have k5 : W5.cell? ⟨ob, 0, none⟩ = some (.slice oua m ouc) := cell_of (hblk.out W5 g2H.out) rfl
              have hr6 : Hid ((W5.alloc (.cells #[.int .i64 id, .slice fa flds.length fc, .int .i64 col] 38)).ownsRow w1.heap.size 38 3 (.slice oua m ouc) m cs0) := own_belowO (hrowH.out W5 g2H.out) (below_1 _ _)
              have hs6 : Hid (SrcAt (W5.alloc (.cells #[.int .i64 id, .slice fa flds.length fc, .int .i64 col] 38)) 3 (.slice (some ⟨W5.heap.size, 0, none⟩) 1 1) 1 [.int .i64 id, .slice fa flds.length fc, .int .i64 col]) := .inr ⟨⟨W5.heap.size, 0, none⟩, 1, rfl, rfl, fun j u hj => by rw [Addr.add_lit]; exact (rangeAt_heap (heap_alloc_new W5 (.cells #[.int .i64 id, .slice fa flds.length fc, .int .i64 col] 38))) j u hj⟩
              have hb6 : Hid (w1.heap.size ≤ (W5.alloc (.cells #[.int .i64 id, .slice fa flds.length fc, .int .i64 col] 38)).heap.size) := by have h1 := hsz1.out; have h2 := g2H.out.size; show _ ≤ _; rw [World.size_alloc]; have h3 := lt_of b5; omega
              have hml : Hid (m ≤ 400) := by have := hnl.out.2; show _ ≤ _; omega
              have hml' : (m : Int) ≤ 400 := by have := hml.out; omega
              clear g4H hsz1 hrowH
              go_wp2_with (first
                | (refine wpList_load_row rfl 38 _ rfl bx rfl 38 _ _ _ b5 Try.underlying38 rfl (by kernel_rfl) ?_)
                | (refine wpList_append_src rfl (.tmp 68) (.tmp 70) 31 rfl w1.heap.size 38 i8 (.agg #[.int .i64 0, .slice none 0 0, .int .i64 0]) 3 40 Try.underlying31 hi8 hz8 hs8 hb8 rfl (by omega) _ m cs0 rfl hr6.out _ 1 [.int .i64 id, .slice fa flds.length fc, .int .i64 col] rfl hs6.out (by simp [Value.oneCell']) (by have := hml.out; unfold maxLen; omega) (by have := hml.out; omega) hb6.out (fun out' W7 hown hgrow hat => ?_); obtain ⟨g1, g5⟩ := hnx.out W5 W7 _ out' _ g2H.out g3H.out hgrow hown; have g5H : Hid _ := g5; obtain ⟨oa', oc', rfl⟩ := own_slice hown; have k7 := cell_of (j := 0) g1 rfl; have kf7 := free_of (j := 0) g1; clear hown hgrow hat g1 g5))
              go_roundw
              case rel => exact ⟨m + 1, by omega, by go_num, g5H⟩
              case measure => simp [intOf]; omega
            · have hge : ¬ ((m : Int) < ((obsP s.obs).length : Int)) := by omega
              have hmE : m = (obsP s.obs).length := by omega
              have hA2 := hA.out
              rw [hmE, List.take_length] at hA2
              obtain ⟨oua, ouc, rfl⟩ := own_slice hA2.row
              have hfin : Hid _ := hA2.fin (cs := #[.slice oua (obsP s.obs).length ouc, .slice (some ⟨R, 0, none⟩) 8 8, .bool s.cyc, .slice xa s.row.length xc]) hgdH.out.inv.rl hSH.out (fun k hk => hk) hB1H.out
              have htl2 : Hid _ := hA2.tell (cs := #[.slice oua (obsP s.obs).length ouc, .slice (some ⟨R, 0, none⟩) 8 8, .bool s.cyc, .slice xa s.row.length xc]) hgdH.out.inv.rl hSH.out (fun k hk => hk)
              have hb7 : wr.heap[ob]? = _ := hA2.blk
              have hb4 : wr.heap[w.heap.size]? = _ := (hA2.hb.block _ (lt_of hx1H.out)).trans hx1H.out
              clear hA hA2 hmE hfl hnl hSH hB1H hx1H hgdH
              go_wp2_with (first
                | (refine wpList_load_row rfl 34 _ rfl ob rfl 34 _ _ _ hb7 Try.underlying34 rfl (by kernel_rfl) ?_)
                | (refine wpList_store_row rfl 34 _ _ rfl w.heap.size #[.slice oua (obsP s.obs).length ouc, .slice (some ⟨R, 0, none⟩) 8 8, .bool s.cyc, .slice xa s.row.length xc] rfl rfl 34 _ hb4 (by kernel_rfl) rfl (all_oneCell_toArray (cs := [.slice oua (obsP s.obs).length ouc, .slice (some ⟨R, 0, none⟩) 8 8, .bool s.cyc, .slice xa s.row.length xc]) (by simp [Value.oneCell'])) ?_))
              (try simp only [Exit.inBlock, Exit.then])
              refine bodyPost_ret (v := .agg #[.slice oua (obsP s.obs).length ouc, .slice (some ⟨R, 0, none⟩) 8 8, .bool s.cyc, .slice xa s.row.length xc]) (results_cell_row rfl _ _ w.heap.size 34 #[.slice oua (obsP s.obs).length ouc, .slice (some ⟨R, 0, none⟩) 8 8, .bool s.cyc, .slice xa s.row.length xc] (0, 0) _ rfl (setRow_heap _ _ _ _ _ _ hb4) Try.underlying34 rfl (by kernel_rfl)) rfl ?_
              exact ⟨_, _, _, rfl, hfin.out.1, hfin.out.2, htl2.out⟩
theorem specAt_calls (w : World) (mode : Int) (ops : List OpM) (v : Value) (own : Bool) (lo hi : Nat) (h : ListAt MopR 4 own lo hi w v ops) (hh : hi ≤ w.heap.size) (hl : ops.length ≤ 1048576) :
    Calls Try.prog 9 #[.int .i64 mode, v] w fun e w' => ∃ o r q, e = .returned (.agg #[o, r, .bool (atM mode ops).cyc, q]) ∧ HpR w.heap.size w'.heap.size w' o r q (atM mode ops).os (atM mode ops).rs (atM mode ops).qs ∧ Below w.heap.size w w' :=
  (specAtF_calls w mode ops v own lo hi h hh hl).mono fun e w' ⟨o, r, q, h1, h2, h3, _⟩ => ⟨o, r, q, h1, h2, h3⟩
end Go.Proofs.Ytchcdlelaklnnaa
