/- A tour through objects: each number once, as it comes; the plain mathematics. -/
import Derived.Test.YtkpeimklcoggkaaRcH
namespace Go.Proofs.Ytkpeimklcoggkaa
set_option linter.unusedVariables false

def comeL (N : Nat) (row : List Int) (n : Int) : List Int := if 1 ≤ n ∧ n ≤ N ∧ n ∉ row then row ++ [n] else row
def comes (N : Nat) (row zs : List Int) : List Int := zs.foldl (comeL N) row
theorem comes_snoc (N : Nat) (row zs : List Int) (z : Int) : comes N row (zs ++ [z]) = comeL N (comes N row zs) z := by
  simp [comes, List.foldl_append]
theorem mem_comeL (N : Nat) (row : List Int) (n x : Int) : x ∈ comeL N row n ↔ x ∈ row ∨ (x = n ∧ 1 ≤ n ∧ n ≤ N) := by
  unfold comeL
  split
  · rename_i h; simp [h.1, h.2.1]
  · rename_i h
    constructor
    · exact .inl
    · rintro (q | ⟨rfl, h1, h2⟩)
      · exact q
      · exact Classical.byContradiction fun hn => h ⟨h1, h2, hn⟩
theorem nodup_comeL {N : Nat} {row : List Int} {n : Int} (h : row.Nodup) : (comeL N row n).Nodup := by
  unfold comeL
  split
  · rename_i q
    rw [List.nodup_append]
    refine ⟨h, by simp, fun a ha b hb e => ?_⟩
    simp at hb; subst hb; subst e; exact q.2.2 ha
  · exact h
theorem pre_comeL (N : Nat) (row : List Int) (n : Int) : ∃ t, comeL N row n = row ++ t := by
  unfold comeL
  split
  · exact ⟨_, rfl⟩
  · exact ⟨[], by simp⟩
theorem mem_comes (N : Nat) (zs : List Int) : ∀ (row : List Int) (x : Int), x ∈ comes N row zs ↔ x ∈ row ∨ (x ∈ zs ∧ 1 ≤ x ∧ x ≤ N) := by
  induction zs with
  | nil => intro row x; simp [comes]
  | cons z zs ih =>
    intro row x
    have := ih (comeL N row z) x
    simp only [comes, List.foldl_cons] at this ⊢
    rw [this, mem_comeL]
    constructor
    · rintro ((q | ⟨rfl, q⟩) | ⟨q, r⟩)
      · exact .inl q
      · exact .inr ⟨by simp, q⟩
      · exact .inr ⟨by simp [q], r⟩
    · rintro (q | ⟨q, r⟩)
      · exact .inl (.inl q)
      · rcases List.mem_cons.1 q with rfl | q
        · exact .inl (.inr ⟨rfl, r⟩)
        · exact .inr ⟨q, r⟩
theorem nodup_comes (N : Nat) (zs : List Int) : ∀ {row : List Int}, row.Nodup → (comes N row zs).Nodup := by
  induction zs with
  | nil => intro row h; exact h
  | cons z zs ih => intro row h; exact ih (nodup_comeL h)
theorem pre_comes (N : Nat) (zs : List Int) : ∀ (row : List Int), ∃ t, comes N row zs = row ++ t := by
  induction zs with
  | nil => intro row; exact ⟨[], by simp [comes]⟩
  | cons z zs ih =>
    intro row
    obtain ⟨t, ht⟩ := pre_comeL N row z
    obtain ⟨s, hs⟩ := ih (comeL N row z)
    refine ⟨t ++ s, ?_⟩
    show comes N (comeL N row z) zs = _
    rw [hs, ht, List.append_assoc]
theorem len_le : ∀ (N : Nat) (row : List Int), row.Nodup → (∀ x ∈ row, 1 ≤ x ∧ x ≤ (N : Int)) → row.length ≤ N := by
  intro N
  induction N with
  | zero =>
    intro row _ h
    cases row with
    | nil => simp
    | cons x l => have := h x (by simp); omega
  | succ N ih =>
    intro row hn h
    by_cases hm : ((N : Int) + 1) ∈ row
    · have h1 := ih (row.erase ((N : Int) + 1)) (hn.erase _) (fun x hx => by
        have := (hn.mem_erase_iff).1 hx
        have := h x this.2
        omega)
      rw [List.length_erase_of_mem hm] at h1
      omega
    · have h1 := ih row hn (fun x hx => by
        have h2 := h x hx
        have : x ≠ (N : Int) + 1 := fun e => hm (by rw [← e]; exact hx)
        omega)
      omega
/-- A search row by row: all before 'at' were looked at. -/
structure Bfs (N : Nat) (roots : List Int) (out : Nat → List Int) (row : List Int) (at' : Nat) : Prop where
  nd : row.Nodup
  rc : ∀ x ∈ row, ∃ m : Nat, x = (m : Int) ∧ Rch N roots out m
  ro : ∀ r : Nat, (r : Int) ∈ roots → 1 ≤ r → r ≤ N → (r : Int) ∈ row
  cl : ∀ j, j < at' → ∀ x, row[j]? = some x → ∀ r : Nat, (r : Int) ∈ out x.toNat → 1 ≤ r → r ≤ N → (r : Int) ∈ row
theorem Bfs.rng {N : Nat} {roots : List Int} {out : Nat → List Int} {row : List Int} {k : Nat} (h : Bfs N roots out row k) : ∀ x ∈ row, 1 ≤ x ∧ x ≤ (N : Int) := fun x hx => by
  obtain ⟨m, rfl, hm⟩ := h.rc x hx
  have := hm.range
  omega
theorem Bfs.len {N : Nat} {roots : List Int} {out : Nat → List Int} {row : List Int} {k : Nat} (h : Bfs N roots out row k) : row.length ≤ N := len_le N row h.nd h.rng
theorem Bfs.start (N : Nat) (roots : List Int) (out : Nat → List Int) : Bfs N roots out (comes N [] roots) 0 := by
  refine ⟨nodup_comes N roots (by simp), fun x hx => ?_, fun r hr h1 h2 => (mem_comes N roots [] r).2 (.inr ⟨hr, by omega, by omega⟩), fun j hj => by omega⟩
  rcases (mem_comes N roots [] x).1 hx with q | ⟨q, h1, h2⟩
  · simp at q
  · exact ⟨x.toNat, by omega, .root _ (by rw [show ((x.toNat : Nat) : Int) = x by omega]; exact q) (by omega) (by omega)⟩
theorem Bfs.step {N : Nat} {roots : List Int} {out : Nat → List Int} {row : List Int} {k : Nat} (h : Bfs N roots out row k) (x : Int) (hx : row[k]? = some x) : Bfs N roots out (comes N row (out x.toNat)) (k + 1) := by
  have hmx : x ∈ row := List.mem_of_getElem? hx
  obtain ⟨m, rfl, hm⟩ := h.rc x hmx
  have hin : ∀ r : Int, r ∈ row → r ∈ comes N row (out (m : Int).toNat) := fun r hr => (mem_comes _ _ _ _).2 (.inl hr)
  refine ⟨nodup_comes _ _ h.nd, fun y hy => ?_, fun r hr h1 h2 => hin _ (h.ro r hr h1 h2), fun j hj y hy r hr h1 h2 => ?_⟩
  · rcases (mem_comes _ _ _ _).1 hy with q | ⟨q, h1, h2⟩
    · exact h.rc y q
    · refine ⟨y.toNat, by omega, .step m y.toNat hm ?_ (by omega) (by omega)⟩
      rw [show ((y.toNat : Nat) : Int) = y by omega]; simpa using q
  · have hkl : k < row.length := (List.getElem?_eq_some_iff.1 hx).1
    obtain ⟨t, ht⟩ := pre_comes N (out (m : Int).toNat) row
    rw [ht, List.getElem?_append_left (by omega)] at hy
    by_cases e : j = k
    · subst e
      rw [hx] at hy
      injection hy with hy
      subst hy
      exact (mem_comes _ _ _ _).2 (.inr ⟨hr, by omega, by omega⟩)
    · exact hin _ (h.cl j (by omega) y hy r hr h1 h2)
theorem Bfs.done {N : Nat} {roots : List Int} {out : Nat → List Int} {row : List Int} {k : Nat} (h : Bfs N roots out row k) (hk : row.length ≤ k) (n : Nat) : (n : Int) ∈ row ↔ Rch N roots out n := by
  constructor
  · intro hn
    obtain ⟨m, e, hm⟩ := h.rc _ hn
    have : n = m := by omega
    rw [this]; exact hm
  · intro hn
    induction hn with
    | root n hm h1 h2 => exact h.ro n hm h1 h2
    | step m n hm hn h1 h2 ih =>
      obtain ⟨j, hj, e⟩ := List.mem_iff_getElem.1 ih
      exact h.cl j (by omega) (m : Int) (by rw [List.getElem?_eq_getElem hj, e]) n (by simpa using hn) h1 h2
theorem rchL_sorted (N : Nat) (roots : List Int) (out : Nat → List Int) : (rchL N roots out).Pairwise (· < ·) := by
  unfold rchL
  rw [List.pairwise_map]
  refine List.Pairwise.imp (fun {a b} (h : a < b) => by show Int.ofNat a < Int.ofNat b; simp; omega) ?_
  exact List.Pairwise.filter _ List.pairwise_lt_range
theorem mem_rchL (N : Nat) (roots : List Int) (out : Nat → List Int) (x : Int) : x ∈ rchL N roots out ↔ ∃ n : Nat, x = (n : Int) ∧ Rch N roots out n := by
  unfold rchL
  simp only [List.mem_map, List.mem_filter, List.mem_range, decide_eq_true_eq]
  constructor
  · rintro ⟨n, ⟨_, h⟩, rfl⟩; exact ⟨n, rfl, h⟩
  · rintro ⟨n, rfl, h⟩; exact ⟨n, ⟨by have := h.range; omega, h⟩, rfl⟩
theorem Bfs.sorted {N : Nat} {roots : List Int} {out : Nat → List Int} {row : List Int} {k : Nat} (h : Bfs N roots out row k) (hk : row.length ≤ k) : row.mergeSort (fun x y => decide (x ≤ y)) = rchL N roots out := by
  have hp := List.mergeSort_perm row (fun x y => decide (x ≤ y))
  have hs : (row.mergeSort (fun x y => decide (x ≤ y))).Pairwise (fun x y => decide (x ≤ y) = true) := List.pairwise_mergeSort (fun a b c => by simp; omega) (fun a b => by simp; omega) row
  have hnd : (rchL N roots out).Nodup := (rchL_sorted N roots out).imp (fun {a b} (h : a < b) => by omega)
  have hq : (row.mergeSort (fun x y => decide (x ≤ y))).Perm (rchL N roots out) := by
    refine hp.trans ((List.perm_ext_iff_of_nodup h.nd hnd).2 fun x => ?_)
    rw [mem_rchL]
    constructor
    · intro hx
      obtain ⟨m, rfl, hm⟩ := h.rc x hx
      exact ⟨m, rfl, hm⟩
    · rintro ⟨n, rfl, hn⟩; exact (h.done hk n).2 hn
  refine hq.eq_of_pairwise (le := fun x y : Int => x ≤ y) (fun a b _ _ h1 h2 => by omega) (hs.imp (fun {a b} h => by simpa using h)) ((rchL_sorted N roots out).imp (fun {a b} (h : a < b) => by omega))
end Go.Proofs.Ytkpeimklcoggkaa
