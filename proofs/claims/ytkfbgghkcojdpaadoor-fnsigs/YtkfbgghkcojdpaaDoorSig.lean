/- Signatures as lists of bytes; spec.l2Sig: what it answers at any text of at most 2^20 bytes. -/
import Derived.Test.YtkfbgghkcojdpaaDoorSplit
import Derived.Lib.Split
import Derived.Deep.Quiet
namespace Go.Proofs.YtkfbgghkcojdpaaDoor
set_option linter.unusedVariables false
open Go.ChangeShapes Go.WideShapes Go.ChangeAt Go.RowKit

theorem index_byte (c : UInt8) : ∀ l : List UInt8, (Lib.index l [c] = -1 ∧ ∀ b ∈ l, b ≠ c) ∨ ∃ p t, l = p ++ c :: t ∧ (∀ b ∈ p, b ≠ c) ∧ Lib.index l [c] = p.length
  | [] => .inl ⟨rfl, by simp⟩
  | b :: l => by
    rw [Lib.index_one, Lib.indexByte]
    by_cases hb : b = c
    · exact .inr ⟨[], l, by rw [hb]; rfl, by simp, by simp [hb]⟩
    · have hb' : (b == c) = false := by simpa using hb
      rcases index_byte c l with ⟨h1, h2⟩ | ⟨p, t, h1, h2, h3⟩
      · rw [Lib.index_one] at h1
        refine .inl ⟨by simp [hb', h1], ?_⟩
        intro x hx
        rcases List.mem_cons.1 hx with rfl | hx
        · exact hb
        · exact h2 x hx
      · rw [Lib.index_one] at h3
        refine .inr ⟨b :: p, t, by rw [h1]; rfl, ?_, ?_⟩
        · intro x hx
          rcases List.mem_cons.1 hx with rfl | hx
          · exact hb
          · exact h2 x hx
        · have : ¬ (p.length : Int) = -1 := by omega
          simp [hb', h3, this]
theorem index_at (c : UInt8) (p t : List UInt8) (h : ∀ b ∈ p, b ≠ c) : Lib.index (p ++ c :: t) [c] = p.length := by
  rcases index_byte c (p ++ c :: t) with ⟨_, h2⟩ | ⟨q, u, h1, h2, h3⟩
  · exact absurd rfl (h2 c (by simp))
  · rw [h3]
    have : ∀ (p q t u : List UInt8), p ++ c :: t = q ++ c :: u → (∀ b ∈ p, b ≠ c) → (∀ b ∈ q, b ≠ c) → p.length = q.length := by
      intro p
      induction p with
      | nil =>
        intro q t u h _ hq
        cases q with
        | nil => rfl
        | cons x q => simp at h; exact absurd h.1.symm (hq x (by simp))
      | cons y p ih =>
        intro q t u h hp hq
        cases q with
        | nil => simp at h; exact absurd h.1 (hp y (by simp))
        | cons x q =>
          simp at h
          simp [ih q t u h.2 (fun b hb => hp b (by simp [hb])) (fun b hb => hq b (by simp [hb]))]
    rw [this p q t u h1 h h2]
theorem cut_at (c : UInt8) (p t : List UInt8) (h : ∀ b ∈ p, b ≠ c) : Lib.cut (p ++ c :: t) [c] = (p, t, true) := by
  unfold Lib.cut
  rw [index_at c p t h]
  simp
theorem cut_none (c : UInt8) (l : List UInt8) (h : ∀ b ∈ l, b ≠ c) : Lib.cut l [c] = (l, [], false) := by
  unfold Lib.cut
  rcases index_byte c l with ⟨h1, _⟩ | ⟨p, t, h1, _, _⟩
  · simp [h1]
  · exact absurd rfl (h c (by rw [h1]; simp))

def parsOf (p : List UInt8) : List (List UInt8) := if p = [] then [] else splitL p
def okOf (p r : List UInt8) : Bool := decide ((parsOf p).length ≤ 8) && ((r == [86]) || typeL r) && (parsOf p).all typeL
def sigOk (l : List UInt8) : Bool := match l with
  | 40 :: t => (Lib.cut t [41]).2.2 && okOf (Lib.cut t [41]).1 (Lib.cut t [41]).2.1
  | _ => false
def sigPars (l : List UInt8) : List (List UInt8) := if sigOk l then parsOf (Lib.cut l.tail [41]).1 else []
def sigRes (l : List UInt8) : List UInt8 := if sigOk l then (Lib.cut l.tail [41]).2.1 else []

theorem sig_none {l : List UInt8} (h : ∀ b ∈ l, b ≠ 41) : sigOk l = false := by
  cases l with
  | nil => rfl
  | cons b t =>
    by_cases hb : b = 40
    · subst hb
      simp only [sigOk]
      rw [cut_none 41 t (fun x hx => h x (by simp [hx]))]
      rfl
    · unfold sigOk; split
      · rename_i h'; simp at h'; exact absurd h'.1 hb
      · rfl
theorem sig_head {l : List UInt8} (h : ∀ t, l ≠ 40 :: t) : sigOk l = false := by
  unfold sigOk; split
  · rename_i t; exact absurd rfl (h t)
  · rfl
theorem sig_at (p r : List UInt8) (h : ∀ b ∈ p, b ≠ 41) : sigOk (40 :: (p ++ 41 :: r)) = okOf p r := by
  simp only [sigOk]; rw [cut_at 41 p r h]; simp
theorem sigPars_at (p r : List UInt8) (h : ∀ b ∈ p, b ≠ 41) (ho : okOf p r = true) : sigPars (40 :: (p ++ 41 :: r)) = parsOf p := by
  unfold sigPars; rw [sig_at p r h, ho]; simp [cut_at 41 p r h]
theorem sigRes_at (p r : List UInt8) (h : ∀ b ∈ p, b ≠ 41) (ho : okOf p r = true) : sigRes (40 :: (p ++ 41 :: r)) = r := by
  unfold sigRes; rw [sig_at p r h, ho]; simp [cut_at 41 p r h]
theorem sigPars_no {l : List UInt8} (h : sigOk l = false) : sigPars l = [] := by unfold sigPars; simp [h]
theorem sigRes_no {l : List UInt8} (h : sigOk l = false) : sigRes l = [] := by unfold sigRes; simp [h]

/-- A text whose first ) stands at k, behind a ( at its head. -/
theorem sig_split {l : List UInt8} {k : Nat} (hk : k < l.length) (hb : l[k] = 41) (hno : ∀ b ∈ l.take k, b ≠ 41) (h0 : l[0]'(by omega) = 40) :
    1 ≤ k ∧ l = 40 :: ((l.drop 1).take (k - 1) ++ 41 :: l.drop (k + 1)) ∧ ∀ b ∈ (l.drop 1).take (k - 1), b ≠ 41 := by
  cases l with
  | nil => simp at hk
  | cons b t =>
    simp at h0
    subst h0
    cases k with
    | zero => simp at hb
    | succ k =>
      simp at hk hb
      refine ⟨by omega, ?_, ?_⟩
      · simp only [List.drop_succ_cons, List.drop_zero, Nat.add_sub_cancel]
        congr 1
        have := (List.take_append_drop k t).symm
        rw [List.drop_eq_getElem_cons hk, hb] at this
        exact this
      · intro x hx
        simp at hx
        exact hno x (by simp [hx])
theorem no_step {l : List UInt8} {k : Nat} (hk : k < l.length) (hno : ∀ b ∈ l.take k, b ≠ 41) (hb : l[k] ≠ 41) : ∀ b ∈ l.take (k + 1), b ≠ 41 := by
  rw [List.take_succ_eq_append_getElem hk]
  intro x hx
  rcases List.mem_append.1 hx with h | h
  · exact hno x h
  · simp at h; rw [h]; exact hb
end Go.Proofs.YtkfbgghkcojdpaaDoor
