/- impl.appendOperand at any letter; the words of an instruction. -/
import Derived.Test.YtcencddbdidjjaaGreatDoorOpL
import Derived.Test.YtcencddbdidjjaaGreatDoorOpB1
import Derived.Test.YtcencddbdidjjaaGreatDoorOpB2
import Derived.Test.YtcencddbdidjjaaGreatDoorOpB3
import Derived.Test.YtcencddbdidjjaaGreatDoorOpB4
import Derived.Test.YtcencddbdidjjaaGreatDoorOpB5
import Derived.Test.YtcencddbdidjjaaGreatDoorOpB6
import Derived.Test.YtcencddbdidjjaaGreatDoorOpN
import Derived.Test.YtcencddbdidjjaaGreatDoorJoin0
namespace Go.Proofs.YtcencddbdidjjaaGreatDoor
set_option linter.unusedVariables false
open Go.ChangeShapes Go.WideShapes Go.ChangeAt Go.RowKit

/-- The words of an operand. -/
def opndL (k a b : Int) (T C N Y : ByteArray) (zs : List Int) (c : UInt8) : List (List UInt8) :=
  match c.toNat with
  | 75 => [wordAt kindT k]
  | 82 => if k = 0 then [] else [wordAt kindT k]
  | 70 => if k = 3 then [showL a] else [Lib.itoa a]
  | 80 => [Lib.itoa a]
  | 84 => [Lib.itoa a]
  | 90 => [wordAt convT a]
  | 79 => if k = 3 then [Lib.itoa b] else []
  | 78 => [Lib.itoa b]
  | 88 => [wordAt condT b]
  | 87 => [wordAt callT b]
  | 81 => [quoL T.data.toList]
  | 67 => [C.data.toList]
  | 77 => [N.data.toList]
  | 89 => [Y.data.toList]
  | 76 => zs.map Lib.itoa
  | _ => []
/-- The letter's operand can be shown. -/
def letOk (k a b : Int) (T : ByteArray) (zs : List Int) (c : UInt8) : Prop :=
  (c = 75 ∧ 0 ≤ k ∧ k < 5) ∨ (c = 82 ∧ 0 ≤ k ∧ k < 5) ∨ (c = 70 ∧ B64 a) ∨ (c = 80 ∧ B64 a) ∨ (c = 84 ∧ B64 a) ∨ (c = 90 ∧ 0 ≤ a ∧ a < 8) ∨ (c = 79 ∧ (k = 3 → B64 b)) ∨ (c = 78 ∧ B64 b) ∨ (c = 88 ∧ 0 ≤ b ∧ b < 7) ∨ (c = 87 ∧ 0 ≤ b ∧ b < 5) ∨ (c = 81 ∧ T.size ≤ 1048576) ∨ c = 67 ∨ c = 77 ∨ c = 89 ∨ (c = 76 ∧ zs.length ≤ 1048576 ∧ ∀ z ∈ zs, B64 z)
theorem oper_calls (o k a b : Int) (T C N Y : ByteArray) (ta : Option Addr) (tc : Nat) (zs : List Int) (c : UInt8) (v : Value) (ws : List (List UInt8)) (B : Nat) (w : World) (hw : WordsAt B w v ws) (hB : B ≤ w.heap.size) (hn : ws.length ≤ 1000)
    (he : ∀ W, Below B w W → Env W) (ht : ∀ W, Below B w W → Tab W (.slice ta zs.length tc) zs) (hc : letOk k a b T zs c) :
    Calls Tryz.prog 43 #[v, insV o k a b T C N Y (.slice ta zs.length tc), .int .i32 c.toNat] w fun e w' => ∃ v', e = .returned v' ∧ Wrk B w v (ws ++ opndL k a b T C N Y zs c) v' w' := by
  have hew : Env w := he w (Below.refl _ _)
  rcases hc with ⟨rfl, h0, h1⟩ | ⟨rfl, h0, h1⟩ | ⟨rfl, h⟩ | ⟨rfl, h⟩ | ⟨rfl, h⟩ | ⟨rfl, h0, h1⟩ | ⟨rfl, h⟩ | ⟨rfl, h⟩ | ⟨rfl, h0, h1⟩ | ⟨rfl, h0, h1⟩ | ⟨rfl, h⟩ | rfl | rfl | rfl | ⟨rfl, h0, h1⟩
  · obtain ⟨j, rfl⟩ := Int.eq_ofNat_of_zero_le h0
    exact opK o a b j T C N Y ta zs.length tc v ws B w hw hB hn (by omega)
  · obtain ⟨j, rfl⟩ := Int.eq_ofNat_of_zero_le h0
    have e : opndL (j : Int) a b T C N Y zs 82 = if (j : Int) = 0 then [] else [wordAt kindT j] := rfl
    rw [e]
    by_cases hj : j = 0
    · subst hj
      exact opR0 o a b T C N Y ta zs.length tc v ws B w hw hB hn
    · rw [if_neg (by omega)]
      exact opR o a b j T C N Y ta zs.length tc v ws B w hw hB hn (by omega) (by simp; omega)
  · have e : opndL k a b T C N Y zs 70 = if k = 3 then [showL a] else [Lib.itoa a] := rfl
    rw [e]
    by_cases hk : k = 3
    · subst hk
      exact opF3 o a b T C N Y ta zs.length tc v ws B w hw hB hn h hew
    · rw [if_neg hk]
      exact opF o k a b T C N Y ta zs.length tc v ws B w hw hB hn h hew (by simpa using hk)
  · exact opP o k a b T C N Y ta zs.length tc v ws B w hw hB hn h hew
  · exact opT o k a b T C N Y ta zs.length tc v ws B w hw hB hn h hew
  · obtain ⟨j, rfl⟩ := Int.eq_ofNat_of_zero_le h0
    exact opZ o k b j T C N Y ta zs.length tc v ws B w hw hB hn (by omega)
  · have e : opndL k a b T C N Y zs 79 = if k = 3 then [Lib.itoa b] else [] := rfl
    rw [e]
    by_cases hk : k = 3
    · subst hk
      exact opO3 o a b T C N Y ta zs.length tc v ws B w hw hB hn (h rfl) hew
    · rw [if_neg hk]
      exact opO o k a b T C N Y ta zs.length tc v ws B w hw hB hn (by simpa using hk)
  · exact opN o k a b T C N Y ta zs.length tc v ws B w hw hB hn h hew
  · obtain ⟨j, rfl⟩ := Int.eq_ofNat_of_zero_le h0
    exact opX o k a j T C N Y ta zs.length tc v ws B w hw hB hn (by omega)
  · obtain ⟨j, rfl⟩ := Int.eq_ofNat_of_zero_le h0
    exact opW o k a j T C N Y ta zs.length tc v ws B w hw hB hn (by omega)
  · exact opQ o k a b T C N Y ta zs.length tc v ws B w hw hB hn h
  · exact opC o k a b T C N Y ta zs.length tc v ws B w hw hB hn
  · exact opM o k a b T C N Y ta zs.length tc v ws B w hw hB hn
  · exact opY o k a b T C N Y ta zs.length tc v ws B w hw hB hn
  · exact opL o k a b T C N Y ta tc v ws B w hw hB hn zs h0 h1 he ht
theorem letOk_asc {k a b : Int} {T : ByteArray} {zs : List Int} {c : UInt8} (h : letOk k a b T zs c) : c.toNat < 128 := by
  rcases h with h | h | h | h | h | h | h | h | h | h | h | h | h | h | h
  all_goals first | (obtain ⟨rfl, _⟩ := h; decide) | (subst h; decide)
/-- The words of an instruction. -/
def wordsL (o k a b : Int) (T C N Y : ByteArray) (zs : List Int) : List (List UInt8) := (theRow o b rowsT).word :: (theRow o b rowsT).ops.flatMap (opndL k a b T C N Y zs)
theorem words_calls (o k a b : Int) (T C N Y : ByteArray) (v : Value) (zs : List Int) (w : World) (ht : Tab w v zs) (he : Env w) (hok : ∀ c ∈ (theRow o b rowsT).ops, letOk k a b T zs c)
    (hlen : ∀ p, p < (theRow o b rowsT).ops.length → ((theRow o b rowsT).word :: ((theRow o b rowsT).ops.take p).flatMap (opndL k a b T C N Y zs)).length ≤ 1000) (hol : (theRow o b rowsT).ops.length ≤ 1000) :
    Calls Tryz.prog 16 #[insV o k a b T C N Y v] w fun e w' => ∃ v, e = .returned v ∧ WordsAt w.heap.size w' v (wordsL o k a b T C N Y zs) ∧ Below w.heap.size w w' := by
  obtain ⟨ta, tc, rfl⟩ := ht.form
  exact insWords_calls o k a b T C N Y ta zs.length tc w _ _ _ _ (opndL k a b T C N Y zs) rfl (fun c hc => letOk_asc (hok c hc)) hlen hol (fun c hc W v ws hw hb hl =>
    oper_calls o k a b T C N Y ta tc zs c v ws w.heap.size W hw hb.size hl (fun W' hW' => he.kept (hb.trans hW')) (fun W' hW' => ht.kept (hb.trans hW')) (hok c hc))
end Go.Proofs.YtcencddbdidjjaaGreatDoor

/- What an instruction that is right has for its letters. -/
namespace Go.Proofs.YtcencddbdidjjaaGreatDoor
set_option linter.unusedVariables false
open Go.ChangeShapes Go.WideShapes Go.ChangeAt Go.RowKit

theorem cont_op {o k a b : Int} {T C N Y : ByteArray} {zs : List Int} {size locals : Int} (h : contS o k a b T C N Y zs size locals = true) : 1 ≤ o ∧ o ≤ 44 := by
  by_cases h1 : 1 ≤ o ∧ o ≤ 44
  · exact h1
  · exfalso
    unfold contS at h
    rw [if_neg (by omega), if_neg (by omega), if_neg (by omega), if_neg (by omega), if_neg (by omega), if_neg (by omega), if_neg (by omega), if_neg (by omega), if_neg (by omega), if_neg (by omega), if_neg (by omega), if_neg (by omega), if_neg (by omega), if_neg (by omega), if_neg (by omega), if_neg (by omega), if_neg (by omega), if_neg (by omega), if_neg (by omega)] at h
    cases h
theorem conv_bd {k t : Int} (h : convB k t = true) : 0 ≤ k ∧ k < 5 ∧ 0 ≤ t ∧ t < 8 := by
  unfold convB at h
  by_cases h1 : k = 1
  · rw [if_pos h1] at h; simp only [Bool.or_eq_true, beq_iff_eq] at h; omega
  rw [if_neg h1] at h
  by_cases h2 : k = 2
  · rw [if_pos h2] at h; simp only [Bool.or_eq_true, beq_iff_eq] at h; omega
  rw [if_neg h2] at h
  by_cases h3 : k = 3
  · rw [if_pos h3] at h; simp only [Bool.or_eq_true, beq_iff_eq] at h; omega
  rw [if_neg h3] at h; cases h
theorem w32 {b : Int} (h : (wrap32 b == b) = true) : B64 b := by
  have e : wrap32 b = b := by simpa using h
  unfold wrap32 at e
  constructor <;> omega
theorem let1 (k a b : Int) (T C N Y : ByteArray) (zs : List Int) (ha : B64 a) (hT : T.size ≤ 1048576) (h : contS 1 k a b T C N Y zs 400 40 = true) : ∀ c ∈ ([75, 70] : List UInt8), letOk k a b T zs c := by
  have h : ((k == 1 && wrap32 a == a) || k == 2 || (k == 3 && fltOk a)) = true := h
  intro c hc
  simp only [List.mem_cons, List.not_mem_nil, or_false] at hc
  rcases hc with rfl | rfl
  · exact .inl ⟨rfl, by simp only [Bool.or_eq_true, Bool.and_eq_true, beq_iff_eq] at h; omega, by simp only [Bool.or_eq_true, Bool.and_eq_true, beq_iff_eq] at h; omega⟩
  · exact .inr (.inr (.inl ⟨rfl, ha⟩))
theorem let2 (k a b : Int) (T C N Y : ByteArray) (zs : List Int) (ha : B64 a) (hT : T.size ≤ 1048576) (h : contS 2 k a b T C N Y zs 400 40 = true) : ∀ c ∈ ([81] : List UInt8), letOk k a b T zs c := by
  have h : decide ((T.size : Int) ≤ 200) = true := h
  simp only [decide_eq_true_eq] at h
  intro c hc
  rw [List.mem_singleton] at hc
  subst hc
  exact .inr (.inr (.inr (.inr (.inr (.inr (.inr (.inr (.inr (.inr (.inl ⟨rfl, hT⟩))))))))))
theorem let4 (k a b : Int) (T C N Y : ByteArray) (zs : List Int) (ha : B64 a) (hT : T.size ≤ 1048576) (h : contS 4 k a b T C N Y zs 400 40 = true) : ∀ c ∈ ([75, 80] : List UInt8), letOk k a b T zs c := by
  have h : (betw k 1 4 && wthn a 40) = true := h
  simp only [betw, wthn, Bool.and_eq_true, decide_eq_true_eq] at h
  intro c hc
  simp only [List.mem_cons, List.not_mem_nil, or_false] at hc
  rcases hc with rfl | rfl
  · exact .inl ⟨rfl, by omega, by omega⟩
  · exact .inr (.inr (.inr (.inl ⟨rfl, ha⟩)))
theorem let5 (k a b : Int) (T C N Y : ByteArray) (zs : List Int) (ha : B64 a) (hT : T.size ≤ 1048576) (h : contS 5 k a b T C N Y zs 400 40 = true) : ∀ c ∈ ([75, 80] : List UInt8), letOk k a b T zs c := by
  have h : (betw k 1 4 && wthn a 40) = true := h
  simp only [betw, wthn, Bool.and_eq_true, decide_eq_true_eq] at h
  intro c hc
  simp only [List.mem_cons, List.not_mem_nil, or_false] at hc
  rcases hc with rfl | rfl
  · exact .inl ⟨rfl, by omega, by omega⟩
  · exact .inr (.inr (.inr (.inl ⟨rfl, ha⟩)))
theorem let6 (k a b : Int) (T C N Y : ByteArray) (zs : List Int) (ha : B64 a) (hT : T.size ≤ 1048576) (h : contS 6 k a b T C N Y zs 400 40 = true) : ∀ c ∈ ([80, 78] : List UInt8), letOk k a b T zs c := by
  have h : (wthn a 40 && betw b (-32768) 32767) = true := h
  simp only [betw, wthn, Bool.and_eq_true, decide_eq_true_eq] at h
  intro c hc
  simp only [List.mem_cons, List.not_mem_nil, or_false] at hc
  rcases hc with rfl | rfl
  · exact .inr (.inr (.inr (.inl ⟨rfl, ha⟩)))
  · exact .inr (.inr (.inr (.inr (.inr (.inr (.inr (.inl ⟨rfl, ⟨by omega, by omega⟩⟩)))))))
theorem let11 (k a b : Int) (T C N Y : ByteArray) (zs : List Int) (ha : B64 a) (hT : T.size ≤ 1048576) (h : contS 11 k a b T C N Y zs 400 40 = true) : ∀ c ∈ ([75] : List UInt8), letOk k a b T zs c := by
  have h : (k == 1 || k == 2 || (k == 3 && flop 11)) = true := h
  simp only [Bool.and_eq_true, Bool.or_eq_true, beq_iff_eq] at h
  intro c hc
  rw [List.mem_singleton] at hc
  subst hc
  exact .inl ⟨rfl, by omega, by omega⟩
theorem let12 (k a b : Int) (T C N Y : ByteArray) (zs : List Int) (ha : B64 a) (hT : T.size ≤ 1048576) (h : contS 12 k a b T C N Y zs 400 40 = true) : ∀ c ∈ ([75] : List UInt8), letOk k a b T zs c := by
  have h : (k == 1 || k == 2 || (k == 3 && flop 12)) = true := h
  simp only [Bool.and_eq_true, Bool.or_eq_true, beq_iff_eq] at h
  intro c hc
  rw [List.mem_singleton] at hc
  subst hc
  exact .inl ⟨rfl, by omega, by omega⟩
theorem let13 (k a b : Int) (T C N Y : ByteArray) (zs : List Int) (ha : B64 a) (hT : T.size ≤ 1048576) (h : contS 13 k a b T C N Y zs 400 40 = true) : ∀ c ∈ ([75] : List UInt8), letOk k a b T zs c := by
  have h : (k == 1 || k == 2 || (k == 3 && flop 13)) = true := h
  simp only [Bool.and_eq_true, Bool.or_eq_true, beq_iff_eq] at h
  intro c hc
  rw [List.mem_singleton] at hc
  subst hc
  exact .inl ⟨rfl, by omega, by omega⟩
theorem let14 (k a b : Int) (T C N Y : ByteArray) (zs : List Int) (ha : B64 a) (hT : T.size ≤ 1048576) (h : contS 14 k a b T C N Y zs 400 40 = true) : ∀ c ∈ ([75] : List UInt8), letOk k a b T zs c := by
  have h : (k == 1 || k == 2 || (k == 3 && flop 14)) = true := h
  simp only [Bool.and_eq_true, Bool.or_eq_true, beq_iff_eq] at h
  intro c hc
  rw [List.mem_singleton] at hc
  subst hc
  exact .inl ⟨rfl, by omega, by omega⟩
theorem let15 (k a b : Int) (T C N Y : ByteArray) (zs : List Int) (ha : B64 a) (hT : T.size ≤ 1048576) (h : contS 15 k a b T C N Y zs 400 40 = true) : ∀ c ∈ ([75] : List UInt8), letOk k a b T zs c := by
  have h : (k == 1 || k == 2 || (k == 3 && flop 15)) = true := h
  simp only [Bool.and_eq_true, Bool.or_eq_true, beq_iff_eq] at h
  intro c hc
  rw [List.mem_singleton] at hc
  subst hc
  exact .inl ⟨rfl, by omega, by omega⟩
theorem let16 (k a b : Int) (T C N Y : ByteArray) (zs : List Int) (ha : B64 a) (hT : T.size ≤ 1048576) (h : contS 16 k a b T C N Y zs 400 40 = true) : ∀ c ∈ ([75] : List UInt8), letOk k a b T zs c := by
  have h : (k == 1 || k == 2 || (k == 3 && flop 16)) = true := h
  simp only [Bool.and_eq_true, Bool.or_eq_true, beq_iff_eq] at h
  intro c hc
  rw [List.mem_singleton] at hc
  subst hc
  exact .inl ⟨rfl, by omega, by omega⟩
theorem let17 (k a b : Int) (T C N Y : ByteArray) (zs : List Int) (ha : B64 a) (hT : T.size ≤ 1048576) (h : contS 17 k a b T C N Y zs 400 40 = true) : ∀ c ∈ ([75] : List UInt8), letOk k a b T zs c := by
  have h : (k == 1 || k == 2 || (k == 3 && flop 17)) = true := h
  simp only [Bool.and_eq_true, Bool.or_eq_true, beq_iff_eq] at h
  intro c hc
  rw [List.mem_singleton] at hc
  subst hc
  exact .inl ⟨rfl, by omega, by omega⟩
theorem let18 (k a b : Int) (T C N Y : ByteArray) (zs : List Int) (ha : B64 a) (hT : T.size ≤ 1048576) (h : contS 18 k a b T C N Y zs 400 40 = true) : ∀ c ∈ ([75] : List UInt8), letOk k a b T zs c := by
  have h : (k == 1 || k == 2 || (k == 3 && flop 18)) = true := h
  simp only [Bool.and_eq_true, Bool.or_eq_true, beq_iff_eq] at h
  intro c hc
  rw [List.mem_singleton] at hc
  subst hc
  exact .inl ⟨rfl, by omega, by omega⟩
theorem let19 (k a b : Int) (T C N Y : ByteArray) (zs : List Int) (ha : B64 a) (hT : T.size ≤ 1048576) (h : contS 19 k a b T C N Y zs 400 40 = true) : ∀ c ∈ ([75] : List UInt8), letOk k a b T zs c := by
  have h : (k == 1 || k == 2 || (k == 3 && flop 19)) = true := h
  simp only [Bool.and_eq_true, Bool.or_eq_true, beq_iff_eq] at h
  intro c hc
  rw [List.mem_singleton] at hc
  subst hc
  exact .inl ⟨rfl, by omega, by omega⟩
theorem let20 (k a b : Int) (T C N Y : ByteArray) (zs : List Int) (ha : B64 a) (hT : T.size ≤ 1048576) (h : contS 20 k a b T C N Y zs 400 40 = true) : ∀ c ∈ ([75] : List UInt8), letOk k a b T zs c := by
  have h : (k == 1 || k == 2 || (k == 3 && flop 20)) = true := h
  simp only [Bool.and_eq_true, Bool.or_eq_true, beq_iff_eq] at h
  intro c hc
  rw [List.mem_singleton] at hc
  subst hc
  exact .inl ⟨rfl, by omega, by omega⟩
theorem let21 (k a b : Int) (T C N Y : ByteArray) (zs : List Int) (ha : B64 a) (hT : T.size ≤ 1048576) (h : contS 21 k a b T C N Y zs 400 40 = true) : ∀ c ∈ ([75] : List UInt8), letOk k a b T zs c := by
  have h : (k == 1 || k == 2 || (k == 3 && flop 21)) = true := h
  simp only [Bool.and_eq_true, Bool.or_eq_true, beq_iff_eq] at h
  intro c hc
  rw [List.mem_singleton] at hc
  subst hc
  exact .inl ⟨rfl, by omega, by omega⟩
theorem let22 (k a b : Int) (T C N Y : ByteArray) (zs : List Int) (ha : B64 a) (hT : T.size ≤ 1048576) (h : contS 22 k a b T C N Y zs 400 40 = true) : ∀ c ∈ ([75] : List UInt8), letOk k a b T zs c := by
  have h : (k == 1 || k == 2 || (k == 3 && flop 22)) = true := h
  simp only [Bool.and_eq_true, Bool.or_eq_true, beq_iff_eq] at h
  intro c hc
  rw [List.mem_singleton] at hc
  subst hc
  exact .inl ⟨rfl, by omega, by omega⟩
theorem let23 (k a b : Int) (T C N Y : ByteArray) (zs : List Int) (ha : B64 a) (hT : T.size ≤ 1048576) (h : contS 23 k a b T C N Y zs 400 40 = true) : ∀ c ∈ ([75, 79] : List UInt8), letOk k a b T zs c := by
  have h : (k == 2 || (k == 3 && (b == -1 || b == 1))) = true := h
  simp only [Bool.and_eq_true, Bool.or_eq_true, beq_iff_eq] at h
  intro c hc
  simp only [List.mem_cons, List.not_mem_nil, or_false] at hc
  rcases hc with rfl | rfl
  · exact .inl ⟨rfl, by omega, by omega⟩
  · exact .inr (.inr (.inr (.inr (.inr (.inr (.inl ⟨rfl, fun e => ⟨by omega, by omega⟩⟩))))))
theorem let24 (k a b : Int) (T C N Y : ByteArray) (zs : List Int) (ha : B64 a) (hT : T.size ≤ 1048576) (h : contS 24 k a b T C N Y zs 400 40 = true) : ∀ c ∈ ([75, 90] : List UInt8), letOk k a b T zs c := by
  have h : convB k a = true := h
  intro c hc
  simp only [List.mem_cons, List.not_mem_nil, or_false] at hc
  rcases hc with rfl | rfl
  · exact .inl ⟨rfl, (conv_bd h).1, (conv_bd h).2.1⟩
  · exact .inr (.inr (.inr (.inr (.inr (.inl ⟨rfl, (conv_bd h).2.2.1, (conv_bd h).2.2.2⟩)))))
theorem let25 (k a b : Int) (T C N Y : ByteArray) (zs : List Int) (ha : B64 a) (hT : T.size ≤ 1048576) (h : contS 25 k a b T C N Y zs 400 40 = true) : ∀ c ∈ ([84] : List UInt8), letOk k a b T zs c := by
  have h : wthn a 400 = true := h
  simp only [wthn, Bool.and_eq_true, decide_eq_true_eq] at h
  intro c hc
  rw [List.mem_singleton] at hc
  subst hc
  exact .inr (.inr (.inr (.inr (.inl ⟨rfl, ha⟩))))
theorem let26 (k a b : Int) (T C N Y : ByteArray) (zs : List Int) (ha : B64 a) (hT : T.size ≤ 1048576) (h : contS 26 k a b T C N Y zs 400 40 = true) : ∀ c ∈ ([88, 84] : List UInt8), letOk k a b T zs c := by
  have h : (wthn a 400 && betw b 1 6) = true := h
  simp only [betw, wthn, Bool.and_eq_true, decide_eq_true_eq] at h
  intro c hc
  simp only [List.mem_cons, List.not_mem_nil, or_false] at hc
  rcases hc with rfl | rfl
  · exact .inr (.inr (.inr (.inr (.inr (.inr (.inr (.inr (.inl ⟨rfl, by omega, by omega⟩))))))))
  · exact .inr (.inr (.inr (.inr (.inl ⟨rfl, ha⟩))))
theorem let27 (k a b : Int) (T C N Y : ByteArray) (zs : List Int) (ha : B64 a) (hT : T.size ≤ 1048576) (h : contS 27 k a b T C N Y zs 400 40 = true) : ∀ c ∈ ([88, 84] : List UInt8), letOk k a b T zs c := by
  have h : (wthn a 400 && betw b 1 6) = true := h
  simp only [betw, wthn, Bool.and_eq_true, decide_eq_true_eq] at h
  intro c hc
  simp only [List.mem_cons, List.not_mem_nil, or_false] at hc
  rcases hc with rfl | rfl
  · exact .inr (.inr (.inr (.inr (.inr (.inr (.inr (.inr (.inl ⟨rfl, by omega, by omega⟩))))))))
  · exact .inr (.inr (.inr (.inr (.inl ⟨rfl, ha⟩))))
theorem let28 (k a b : Int) (T C N Y : ByteArray) (zs : List Int) (ha : B64 a) (hT : T.size ≤ 1048576) (h : contS 28 k a b T C N Y zs 400 40 = true) : ∀ c ∈ ([88, 84] : List UInt8), letOk k a b T zs c := by
  have h : (wthn a 400 && betw b 1 2) = true := h
  simp only [betw, wthn, Bool.and_eq_true, decide_eq_true_eq] at h
  intro c hc
  simp only [List.mem_cons, List.not_mem_nil, or_false] at hc
  rcases hc with rfl | rfl
  · exact .inr (.inr (.inr (.inr (.inr (.inr (.inr (.inr (.inl ⟨rfl, by omega, by omega⟩))))))))
  · exact .inr (.inr (.inr (.inr (.inl ⟨rfl, ha⟩))))
theorem let29 (k a b : Int) (T C N Y : ByteArray) (zs : List Int) (ha : B64 a) (hT : T.size ≤ 1048576) (h : contS 29 k a b T C N Y zs 400 40 = true) : ∀ c ∈ ([88, 84] : List UInt8), letOk k a b T zs c := by
  have h : (wthn a 400 && betw b 1 2) = true := h
  simp only [betw, wthn, Bool.and_eq_true, decide_eq_true_eq] at h
  intro c hc
  simp only [List.mem_cons, List.not_mem_nil, or_false] at hc
  rcases hc with rfl | rfl
  · exact .inr (.inr (.inr (.inr (.inr (.inr (.inr (.inr (.inl ⟨rfl, by omega, by omega⟩))))))))
  · exact .inr (.inr (.inr (.inr (.inl ⟨rfl, ha⟩))))
theorem let30 (k a b : Int) (T C N Y : ByteArray) (zs : List Int) (ha : B64 a) (hT : T.size ≤ 1048576) (h : contS 30 k a b T C N Y zs 400 40 = true) : ∀ c ∈ ([78, 84, 76] : List UInt8), letOk k a b T zs c := by
  have h : (wthn a 400 && (wrap32 b == b) && decide ((0 : Int) < zs.length) && decide ((zs.length : Int) ≤ 100) && zs.all fun z => wthn z 400) = true := h
  simp only [wthn, Bool.and_eq_true, decide_eq_true_eq, List.all_eq_true] at h
  intro c hc
  simp only [List.mem_cons, List.not_mem_nil, or_false] at hc
  rcases hc with rfl | rfl | rfl
  · exact .inr (.inr (.inr (.inr (.inr (.inr (.inr (.inl ⟨rfl, w32 h.1.1.1.2⟩)))))))
  · exact .inr (.inr (.inr (.inr (.inl ⟨rfl, ha⟩))))
  · exact .inr (.inr (.inr (.inr (.inr (.inr (.inr (.inr (.inr (.inr (.inr (.inr (.inr (.inr (⟨rfl, by have := h.1.2; omega, fun z hz => by have := h.2 z hz; exact ⟨by omega, by omega⟩⟩))))))))))))))
theorem let31 (k a b : Int) (T C N Y : ByteArray) (zs : List Int) (ha : B64 a) (hT : T.size ≤ 1048576) (h : contS 31 k a b T C N Y zs 400 40 = true) : ∀ c ∈ ([67, 77, 89] : List UInt8), letOk k a b T zs c := by
  intro c hc
  simp only [List.mem_cons, List.not_mem_nil, or_false] at hc
  rcases hc with rfl | rfl | rfl
  · exact .inr (.inr (.inr (.inr (.inr (.inr (.inr (.inr (.inr (.inr (.inr (.inl rfl)))))))))))
  · exact .inr (.inr (.inr (.inr (.inr (.inr (.inr (.inr (.inr (.inr (.inr (.inr (.inl rfl))))))))))))
  · exact .inr (.inr (.inr (.inr (.inr (.inr (.inr (.inr (.inr (.inr (.inr (.inr (.inr (.inl rfl)))))))))))))
theorem let32 (k a b : Int) (T C N Y : ByteArray) (zs : List Int) (ha : B64 a) (hT : T.size ≤ 1048576) (h : contS 32 k a b T C N Y zs 400 40 = true) : ∀ c ∈ ([67, 77, 89] : List UInt8), letOk k a b T zs c := by
  intro c hc
  simp only [List.mem_cons, List.not_mem_nil, or_false] at hc
  rcases hc with rfl | rfl | rfl
  · exact .inr (.inr (.inr (.inr (.inr (.inr (.inr (.inr (.inr (.inr (.inr (.inl rfl)))))))))))
  · exact .inr (.inr (.inr (.inr (.inr (.inr (.inr (.inr (.inr (.inr (.inr (.inr (.inl rfl))))))))))))
  · exact .inr (.inr (.inr (.inr (.inr (.inr (.inr (.inr (.inr (.inr (.inr (.inr (.inr (.inl rfl)))))))))))))
theorem let33 (k a b : Int) (T C N Y : ByteArray) (zs : List Int) (ha : B64 a) (hT : T.size ≤ 1048576) (h : contS 33 k a b T C N Y zs 400 40 = true) : ∀ c ∈ ([87, 67, 77, 89] : List UInt8), letOk k a b T zs c := by
  have h : (nameOk C.data.toList && nameOk N.data.toList && sigOk Y.data.toList && betw b 1 4) = true := h
  simp only [betw, Bool.and_eq_true, decide_eq_true_eq] at h
  intro c hc
  simp only [List.mem_cons, List.not_mem_nil, or_false] at hc
  rcases hc with rfl | rfl | rfl | rfl
  · exact .inr (.inr (.inr (.inr (.inr (.inr (.inr (.inr (.inr (.inl ⟨rfl, by omega, by omega⟩)))))))))
  · exact .inr (.inr (.inr (.inr (.inr (.inr (.inr (.inr (.inr (.inr (.inr (.inl rfl)))))))))))
  · exact .inr (.inr (.inr (.inr (.inr (.inr (.inr (.inr (.inr (.inr (.inr (.inr (.inl rfl))))))))))))
  · exact .inr (.inr (.inr (.inr (.inr (.inr (.inr (.inr (.inr (.inr (.inr (.inr (.inr (.inl rfl)))))))))))))
theorem let34 (k a b : Int) (T C N Y : ByteArray) (zs : List Int) (ha : B64 a) (hT : T.size ≤ 1048576) (h : contS 34 k a b T C N Y zs 400 40 = true) : ∀ c ∈ ([67] : List UInt8), letOk k a b T zs c := by
  intro c hc
  rw [List.mem_singleton] at hc
  subst hc
  exact .inr (.inr (.inr (.inr (.inr (.inr (.inr (.inr (.inr (.inr (.inr (.inl rfl)))))))))))
theorem let35 (k a b : Int) (T C N Y : ByteArray) (zs : List Int) (ha : B64 a) (hT : T.size ≤ 1048576) (h : contS 35 k a b T C N Y zs 400 40 = true) : ∀ c ∈ ([89] : List UInt8), letOk k a b T zs c := by
  intro c hc
  rw [List.mem_singleton] at hc
  subst hc
  exact .inr (.inr (.inr (.inr (.inr (.inr (.inr (.inr (.inr (.inr (.inr (.inr (.inr (.inl rfl)))))))))))))
theorem let37 (k a b : Int) (T C N Y : ByteArray) (zs : List Int) (ha : B64 a) (hT : T.size ≤ 1048576) (h : contS 37 k a b T C N Y zs 400 40 = true) : ∀ c ∈ ([75] : List UInt8), letOk k a b T zs c := by
  have h : betw k 1 4 = true := h
  simp only [betw, Bool.and_eq_true, decide_eq_true_eq] at h
  intro c hc
  rw [List.mem_singleton] at hc
  subst hc
  exact .inl ⟨rfl, by omega, by omega⟩
theorem let38 (k a b : Int) (T C N Y : ByteArray) (zs : List Int) (ha : B64 a) (hT : T.size ≤ 1048576) (h : contS 38 k a b T C N Y zs 400 40 = true) : ∀ c ∈ ([75] : List UInt8), letOk k a b T zs c := by
  have h : betw k 1 4 = true := h
  simp only [betw, Bool.and_eq_true, decide_eq_true_eq] at h
  intro c hc
  rw [List.mem_singleton] at hc
  subst hc
  exact .inl ⟨rfl, by omega, by omega⟩
theorem let39 (k a b : Int) (T C N Y : ByteArray) (zs : List Int) (ha : B64 a) (hT : T.size ≤ 1048576) (h : contS 39 k a b T C N Y zs 400 40 = true) : ∀ c ∈ ([89] : List UInt8), letOk k a b T zs c := by
  intro c hc
  rw [List.mem_singleton] at hc
  subst hc
  exact .inr (.inr (.inr (.inr (.inr (.inr (.inr (.inr (.inr (.inr (.inr (.inr (.inr (.inl rfl)))))))))))))
theorem let40 (k a b : Int) (T C N Y : ByteArray) (zs : List Int) (ha : B64 a) (hT : T.size ≤ 1048576) (h : contS 40 k a b T C N Y zs 400 40 = true) : ∀ c ∈ ([89] : List UInt8), letOk k a b T zs c := by
  intro c hc
  rw [List.mem_singleton] at hc
  subst hc
  exact .inr (.inr (.inr (.inr (.inr (.inr (.inr (.inr (.inr (.inr (.inr (.inr (.inr (.inl rfl)))))))))))))
theorem let44 (k a b : Int) (T C N Y : ByteArray) (zs : List Int) (ha : B64 a) (hT : T.size ≤ 1048576) (h : contS 44 k a b T C N Y zs 400 40 = true) : ∀ c ∈ ([82] : List UInt8), letOk k a b T zs c := by
  have h : betw k 0 4 = true := h
  simp only [betw, Bool.and_eq_true, decide_eq_true_eq] at h
  intro c hc
  rw [List.mem_singleton] at hc
  subst hc
  exact .inr (.inl ⟨rfl, by omega, by omega⟩)
theorem opnd_len (k a b : Int) (T C N Y : ByteArray) (zs : List Int) (c : UInt8) (h : c ≠ 76) : (opndL k a b T C N Y zs c).length ≤ 1 := by
  unfold opndL
  split <;> (try split) <;> first | (simp; done) | skip
  exact absurd (UInt8.toNat_inj.1 (by assumption)) h
theorem flat_len (k a b : Int) (T C N Y : ByteArray) (zs : List Int) : ∀ l : List UInt8, (∀ c ∈ l, c ≠ 76) → (l.flatMap (opndL k a b T C N Y zs)).length ≤ l.length
  | [], _ => by simp
  | c :: r, h => by
    have h1 := opnd_len k a b T C N Y zs c (h c (by simp))
    have h2 := flat_len k a b T C N Y zs r (fun x hx => h x (by simp [hx]))
    simp only [List.flatMap_cons, List.length_append, List.length_cons]
    omega
theorem theRow_mem (o b : Int) : ∀ l : List Row, theRow o b l = noRow ∨ theRow o b l ∈ l
  | [] => .inl rfl
  | r :: t => by
    unfold theRow
    split
    · exact .inr (by simp)
    · rcases theRow_mem o b t with h | h
      · exact .inl h
      · exact .inr (by simp [h])
theorem rows_noL : ∀ r ∈ rowsT.map Row.ops, r.length ≤ 4 ∧ ∀ p, p < r.length → ∀ c ∈ r.take p, c ≠ 76 := by decide
theorem row_fine (o b : Int) : (theRow o b rowsT).ops.length ≤ 4 ∧ ∀ p, p < (theRow o b rowsT).ops.length → ∀ c ∈ (theRow o b rowsT).ops.take p, c ≠ 76 := by
  rcases theRow_mem o b rowsT with h | h
  · rw [h]; exact ⟨by decide, fun p hp => by simp [noRow] at hp⟩
  · exact rows_noL _ (List.mem_map_of_mem h)
theorem ins_let {o k a b : Int} {T C N Y : ByteArray} {zs : List Int} (ha : B64 a) (hT : T.size ≤ 1048576) (h : contS o k a b T C N Y zs 400 40 = true) : ∀ c ∈ (theRow o b rowsT).ops, letOk k a b T zs c := by
  obtain ⟨h1, h2⟩ := cont_op h
  rcases (show o = 1 ∨ o = 2 ∨ o = 3 ∨ o = 4 ∨ o = 5 ∨ o = 6 ∨ o = 7 ∨ o = 8 ∨ o = 9 ∨ o = 10 ∨ o = 11 ∨ o = 12 ∨ o = 13 ∨ o = 14 ∨ o = 15 ∨ o = 16 ∨ o = 17 ∨ o = 18 ∨ o = 19 ∨ o = 20 ∨ o = 21 ∨ o = 22 ∨ o = 23 ∨ o = 24 ∨ o = 25 ∨ o = 26 ∨ o = 27 ∨ o = 28 ∨ o = 29 ∨ o = 30 ∨ o = 31 ∨ o = 32 ∨ o = 33 ∨ o = 34 ∨ o = 35 ∨ o = 36 ∨ o = 37 ∨ o = 38 ∨ o = 39 ∨ o = 40 ∨ o = 41 ∨ o = 42 ∨ o = 43 ∨ o = 44 by omega) with rfl | rfl | rfl | rfl | rfl | rfl | rfl | rfl | rfl | rfl | rfl | rfl | rfl | rfl | rfl | rfl | rfl | rfl | rfl | rfl | rfl | rfl | rfl | rfl | rfl | rfl | rfl | rfl | rfl | rfl | rfl | rfl | rfl | rfl | rfl | rfl | rfl | rfl | rfl | rfl | rfl | rfl | rfl | rfl
  · exact let1 k a b T C N Y zs ha hT h
  · exact let2 k a b T C N Y zs ha hT h
  · intro c hc; cases hc
  · exact let4 k a b T C N Y zs ha hT h
  · exact let5 k a b T C N Y zs ha hT h
  · exact let6 k a b T C N Y zs ha hT h
  · intro c hc; cases hc
  · intro c hc; cases hc
  · intro c hc; cases hc
  · intro c hc; cases hc
  · exact let11 k a b T C N Y zs ha hT h
  · exact let12 k a b T C N Y zs ha hT h
  · exact let13 k a b T C N Y zs ha hT h
  · exact let14 k a b T C N Y zs ha hT h
  · exact let15 k a b T C N Y zs ha hT h
  · exact let16 k a b T C N Y zs ha hT h
  · exact let17 k a b T C N Y zs ha hT h
  · exact let18 k a b T C N Y zs ha hT h
  · exact let19 k a b T C N Y zs ha hT h
  · exact let20 k a b T C N Y zs ha hT h
  · exact let21 k a b T C N Y zs ha hT h
  · exact let22 k a b T C N Y zs ha hT h
  · exact let23 k a b T C N Y zs ha hT h
  · exact let24 k a b T C N Y zs ha hT h
  · exact let25 k a b T C N Y zs ha hT h
  · exact let26 k a b T C N Y zs ha hT h
  · exact let27 k a b T C N Y zs ha hT h
  · exact let28 k a b T C N Y zs ha hT h
  · exact let29 k a b T C N Y zs ha hT h
  · exact let30 k a b T C N Y zs ha hT h
  · have hb : b = 0 ∨ b = 1 := by
      have h : (nameOk C.data.toList && nameOk N.data.toList && typeL Y.data.toList && betw b 0 1) = true := h
      simp only [betw, Bool.and_eq_true, decide_eq_true_eq] at h
      omega
    rcases hb with rfl | rfl
    · exact let31 k a 0 T C N Y zs ha hT h
    · exact let31 k a 1 T C N Y zs ha hT h
  · have hb : b = 0 ∨ b = 1 := by
      have h : (nameOk C.data.toList && nameOk N.data.toList && typeL Y.data.toList && betw b 0 1) = true := h
      simp only [betw, Bool.and_eq_true, decide_eq_true_eq] at h
      omega
    rcases hb with rfl | rfl
    · exact let32 k a 0 T C N Y zs ha hT h
    · exact let32 k a 1 T C N Y zs ha hT h
  · exact let33 k a b T C N Y zs ha hT h
  · exact let34 k a b T C N Y zs ha hT h
  · exact let35 k a b T C N Y zs ha hT h
  · intro c hc; cases hc
  · exact let37 k a b T C N Y zs ha hT h
  · exact let38 k a b T C N Y zs ha hT h
  · exact let39 k a b T C N Y zs ha hT h
  · exact let40 k a b T C N Y zs ha hT h
  · intro c hc; cases hc
  · intro c hc; cases hc
  · intro c hc; cases hc
  · exact let44 k a b T C N Y zs ha hT h
end Go.Proofs.YtcencddbdidjjaaGreatDoor
