/- The program's run. -/
import Derived.Test.YtchcdlelaklnnaaMrC
import Derived.Test.YtchcdlelaklnnaaKmP
import Derived.StillTailTactics
namespace Go.Proofs.Ytchcdlelaklnnaa
set_option linter.unusedVariables false
open Go.ChangeShapes Go.WideShapes Go.ChangeAt Go.RowKit

/-- A row of answers whose rows of ids lie apart, each in an interval of blocks of its own. -/
structure AnsX (lo hi : Nat) (w : World) (v : Value) (xs : List AnsM) (b c : Nat) (cut : Nat → Nat) (gs : List Value) : Prop where
  form : v = .slice (some ⟨b, 0, none⟩) xs.length c
  lo : lo ≤ b ∧ b < cut 0 ∧ cut xs.length ≤ hi ∧ hi ≤ w.heap.size
  mono : ∀ j, j < xs.length → cut j ≤ cut (j + 1)
  room : w.there b 0 (xs.length * 4)
  cells : ∀ j (hj : j < xs.length), ∃ g, gs[j]? = some g ∧ w.rangeAt b (j * 4) [.int .i64 xs[j].code, .int .i64 xs[j].n, .int .i64 xs[j].grey, g] ∧ IntsAt (cut j) (cut (j + 1)) w g xs[j].gone
theorem cut_le {cut : Nat → Nat} {n : Nat} (h : ∀ j, j < n → cut j ≤ cut (j + 1)) : ∀ {i j : Nat}, i ≤ j → j ≤ n → cut i ≤ cut j := by
  intro i j hij hj
  induction j with
  | zero => have : i = 0 := by omega
            subst this; exact Nat.le_refl _
  | succ j ih =>
    by_cases e : i = j + 1
    · subst e; exact Nat.le_refl _
    · exact Nat.le_trans (ih (by omega) (by omega)) (h j (by omega))
theorem AnsX.ans {lo hi : Nat} {w : World} {v : Value} {xs : List AnsM} {b c : Nat} {cut : Nat → Nat} {gs : List Value} (h : AnsX lo hi w v xs b c cut gs) : AnsR lo hi w v xs := by
  refine ⟨⟨_, _, h.form⟩, fun j hj => ?_⟩
  obtain ⟨g, h1, h2, h3⟩ := h.cells j hj
  have hl := h.lo
  have c0 := cut_le h.mono (Nat.zero_le j) (Nat.le_of_lt hj)
  have c1 := cut_le h.mono (show j + 1 ≤ xs.length from hj) (Nat.le_refl _)
  have c2 := cut_le h.mono (Nat.zero_le xs.length) (Nat.le_refl _)
  refine ⟨b, 0, c, g, h.form, hl.1, by omega, fun i u hu => ?_, h3.mono (by omega) (by omega)⟩
  rw [Nat.zero_add]
  exact h2 i u hu
/-- Where the program's run stands: the row was made at first. -/
structure RunM (w wr : World) (M : Nat) (s : StM) (b n m : Nat) (xs : List AnsM) (G : Nat → Prop) (ps fs : List Nat) (ov tv : Value) (cut : Nat → Nat) (gs : List Value) : Prop where
  im : ImW wr G M s ps fs ov tv
  hb : Below w.heap.size w wr
  low : ∀ k, k < w.heap.size → G k
  gb : G b
  len : xs.length = m
  lo : w.heap.size ≤ b ∧ b < cut 0 ∧ cut m ≤ wr.heap.size
  mono : ∀ j, j < m → cut j ≤ cut (j + 1)
  room : wr.there b 0 (n * 4)
  tag : ∃ cs, wr.heap[b]? = some (.cells cs 43 (0, 0))
  gl : gs.length = m
  cells : ∀ j (hj : j < xs.length), ∃ g, gs[j]? = some g ∧ wr.rangeAt b (j * 4) [.int .i64 xs[j].code, .int .i64 xs[j].n, .int .i64 xs[j].grey, g] ∧ IntsAt (cut j) (cut (j + 1)) wr g xs[j].gone
  gG : ∀ (j : Nat) (g : Value) (k : Nat), gs[j]? = some g → g.ownBlock = some k → G k
theorem IntsAt.keepG {lo hi : Nat} {w w' : World} {v : Value} {zs : List Int} (h : IntsAt lo hi w v zs) (hk : ∀ k, v.ownBlock = some k → w'.heap[k]? = w.heap[k]?) : IntsAt lo hi w' v zs := by
  rcases h with h | ⟨b, c, rfl, h1, h2, h3, h4⟩
  · exact .inl h
  · have e := hk b rfl
    exact .inr ⟨b, c, rfl, h1, h2, fun j hj => by rw [World.cell?_of_block (w := w) e, World.frozen?_of_block (w := w) e]; exact h3 j hj, fun j hj => by rw [World.cell?_of_block (w := w) e]; exact h4 j hj⟩
theorem RunM.next {w wr W : World} {M : Nat} {s s' : StM} {b n m : Nat} {xs : List AnsM} {x : AnsM} {G : Nat → Prop} {ps fs ps' fs' : List Nat} {ov tv ov' tv' gv : Value} {cut : Nat → Nat} {gs : List Value} (h : RunM w wr M s b n m xs G ps fs ov tv cut gs) (hm : m < n)
    (hs : ImW W (fun k => G k ∨ gv.ownBlock = some k) M s' ps' fs' ov' tv') (hk : Keep G wr W) (ho : OutAt wr.heap.size W gv x.gone) :
    W.there b (m * 4) 4 ∧ RunM w (W.setCells b (m * 4) [.int .i64 x.code, .int .i64 x.n, .int .i64 x.grey, gv]) M s' b n (m + 1) (xs ++ [x]) (fun k => G k ∨ gv.ownBlock = some k) ps' fs' ov' tv' (fun j => if j ≤ m then cut j else W.heap.size) (gs ++ [gv]) := by
  have s3 := hk.size
  have s4 := h.hb.size
  have hlo := h.lo
  have hcm := cut_le h.mono (Nat.zero_le m) (Nat.le_refl m)
  have hbw : b < wr.heap.size := by obtain ⟨cs, q⟩ := h.tag; exact lt_of q
  have hbb : W.heap[b]? = wr.heap[b]? := hk.block b h.gb
  have hroomW : W.there b 0 (n * 4) := fun j hj => by
    rw [World.cell?_of_block (w := wr) hbb, World.frozen?_of_block (w := wr) hbb]
    exact h.room j hj
  have hth : W.there b (m * 4) 4 := fun j hj => by
    have := hroomW (m * 4 + j) (by omega)
    rwa [Nat.zero_add] at this
  have hoth : ∀ k, k ≠ b → (W.setCells b (m * 4) [.int .i64 x.code, .int .i64 x.n, .int .i64 x.grey, gv]).heap[k]? = W.heap[k]? := fun k hne => by
    by_cases hkl : k < W.heap.size
    · exact (setCells_grownM b _ _ W).block k hkl (fun e => hne (by injection e))
    · have e1 := size_setCells b [.int .i64 x.code, .int .i64 x.n, .int .i64 x.grey, gv] (m * 4) W
      rw [Array.getElem?_eq_none (by omega), Array.getElem?_eq_none (by omega)]
  have hgne : ∀ k, gv.ownBlock = some k → k ≠ b := fun k q e => by
    have := (World.ownsRow.lt ho k q).1
    omega
  refine ⟨hth, ?_, ?_, fun k hk2 => .inl (h.low k hk2), .inl h.gb, by simp [h.len], ⟨hlo.1, by show b < (if 0 ≤ m then cut 0 else _); rw [if_pos (Nat.zero_le _)]; exact hlo.2.1, by rw [size_setCells]; show (if m + 1 ≤ m then _ else _) ≤ _; rw [if_neg (by omega)]; exact Nat.le_refl _⟩, fun j hj => ?_, World.there_setCells hroomW b _ _, ?_, by simp [h.gl], fun j hj => ?_, fun j g k hg q => ?_⟩
  · refine hs.mv (fun k hkl hn => ⟨hoth k (fun e => hn (by rw [e]; exact .inl h.gb)), hn⟩) fun k q => ?_
    rw [size_setCells]
    exact hs.lo.2 k q
  · refine below_setCells b hlo.1 _ _ W ⟨hk.os.trans h.hb.os, hk.tape.trans h.hb.tape, hk.output.trans h.hb.output, by omega, fun k hkl => (hk.block k (h.low k hkl)).trans (h.hb.block k hkl)⟩
  · by_cases e : j + 1 ≤ m
    · have e2 : j ≤ m := by omega
      simp only [e, e2, if_true]
      exact h.mono j (by omega)
    · have e2 : j = m := by omega
      show (if j ≤ m then cut j else _) ≤ (if j + 1 ≤ m then _ else W.heap.size)
      rw [if_pos (by omega), if_neg e, e2]
      exact Nat.le_trans hlo.2.2 s3
  · obtain ⟨cs, q⟩ := h.tag
    exact setCells_tag b _ _ W 43 ⟨cs, hbb.trans q⟩
  · by_cases e : j < xs.length
    · obtain ⟨g, h1, h2, h3⟩ := h.cells j e
      have hjm : j < m := by rw [← h.len]; exact e
      have e1 : j ≤ m := by omega
      have e2 : j + 1 ≤ m := by omega
      have e3 : (xs ++ [x])[j] = xs[j] := List.getElem_append_left e
      refine ⟨g, by rw [List.getElem?_append_left (by rw [h.gl]; exact hjm)]; exact h1, ?_, ?_⟩
      · rw [e3]
        refine World.rangeAt_setCells_apart (fun i u hu => ?_) b (m * 4) _ (.inr (.inl (by simp; omega)))
        rw [World.cell?_of_block (w := wr) hbb]
        exact h2 i u hu
      · simp only [e1, e2, if_true, e3]
        rcases h3 with h3 | ⟨b9, c9, rfl, q1, q2, q3, q4⟩
        · exact .inl h3
        · have hkb : b9 ≠ b := by
            have := cut_le h.mono (Nat.zero_le j) (by omega)
            omega
          refine IntsAt.keepG (.inr ⟨b9, c9, rfl, q1, q2, q3, q4⟩) fun k q => ?_
          simp only [Value.ownBlock, Option.some.injEq] at q
          subst q
          rw [hoth _ hkb]
          exact hk.block _ (h.gG j _ _ h1 rfl)
    · have ej : j = xs.length := by simp at hj; omega
      subst ej
      have e3 : (xs ++ [x])[xs.length] = x := by simp
      refine ⟨gv, by rw [h.len, ← h.gl]; simp, ?_, ?_⟩
      · rw [e3, h.len]
        exact World.rangeAt_setCells_same W b (m * 4) _ hth
      · have e1 : xs.length ≤ m := by rw [h.len]; exact Nat.le_refl _
        have e2 : ¬ xs.length + 1 ≤ m := by rw [h.len]; omega
        simp only [e1, e2, if_true, if_false, e3]
        refine (out_ints ho).mono (by rw [h.len]; omega) (Nat.le_refl _) |>.keepG fun k q => hoth k (hgne k q)
  · by_cases e : j < gs.length
    · rw [List.getElem?_append_left e] at hg
      exact .inl (h.gG j g k hg q)
    · have hjl := (List.getElem?_eq_some_iff.1 hg).1
      have ej : j = gs.length := by simp at hjl; omega
      subst ej
      simp at hg
      subst hg
      exact .inr q
end Go.Proofs.Ytchcdlelaklnnaa

/- Rows of answers compared, marked, looked at. -/
namespace Go.Proofs.Ytchcdlelaklnnaa
set_option linter.unusedVariables false
open Go.ChangeShapes Go.WideShapes Go.ChangeAt Go.RowKit

/-- Marked: numbers from k on. -/
def markA : Int → List AnsM → List AnsM
  | _, [] => []
  | k, x :: xs => ⟨k, k + 1, k + 2, iota (k + 3) x.gone.length⟩ :: markA (k + 3 + x.gone.length) xs
def szA : List AnsM → Nat
  | [] => 0
  | x :: xs => 3 + x.gone.length + szA xs
theorem markA_length : ∀ (xs : List AnsM) (k : Int), (markA k xs).length = xs.length
  | [], _ => rfl
  | x :: xs, k => by simp [markA, markA_length xs]
theorem szA_take : ∀ (xs : List AnsM) (m : Nat) (h : m < xs.length), szA (xs.take (m + 1)) = szA (xs.take m) + 3 + xs[m].gone.length
  | x :: xs, 0, _ => by simp [szA]
  | x :: xs, m + 1, h => by
    have := szA_take xs m (by simpa using h)
    simp only [List.take_succ_cons, szA, List.getElem_cons_succ, this]
    omega
  | [], _, h => by simp at h
theorem markA_get : ∀ (xs : List AnsM) (k : Int) (m : Nat) (h : m < xs.length), (markA k xs)[m]'(by rw [markA_length]; exact h) = ⟨k + szA (xs.take m), k + szA (xs.take m) + 1, k + szA (xs.take m) + 2, iota (k + szA (xs.take m) + 3) xs[m].gone.length⟩
  | x :: xs, k, 0, _ => by simp [markA, szA]
  | x :: xs, k, m + 1, h => by
    have := markA_get xs (k + 3 + x.gone.length) m (by simpa using h)
    simp only [markA, List.getElem_cons_succ, this, List.take_succ_cons, szA]
    have e : k + 3 + (x.gone.length : Int) + (szA (xs.take m) : Int) = k + ((3 + x.gone.length + szA (xs.take m) : Nat) : Int) := by omega
    rw [e]
  | [], _, _, h => by simp at h
theorem szA_le : ∀ (xs : List AnsM) (m : Nat), szA (xs.take m) ≤ szA xs
  | [], _ => by simp [szA]
  | x :: xs, 0 => by simp [szA]
  | x :: xs, m + 1 => by have := szA_le xs m; simp only [List.take_succ_cons, szA]; omega
theorem szA_bound : ∀ (xs : List AnsM), (∀ x ∈ xs, x.gone.length ≤ 400) → szA xs ≤ xs.length * 403
  | [], _ => by simp [szA]
  | x :: xs, h => by
    have := szA_bound xs (fun y hy => h y (by simp [hy]))
    have := h x (by simp)
    simp only [szA, List.length_cons]
    omega
end Go.Proofs.Ytchcdlelaklnnaa
