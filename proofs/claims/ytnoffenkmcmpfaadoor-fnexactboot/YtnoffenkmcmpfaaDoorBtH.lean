/- laws.mark..: what is written over a row, cell by cell. -/
import Derived.Test.YtnoffenkmcmpfaaDoorBtE
import Derived.Laws.IdiomStrings
import Derived.Laws.Concat
namespace Go.Proofs.YtnoffenkmcmpfaaDoor
set_option linter.unusedVariables false
open Go.ChangeShapes Go.WideShapes Go.ChangeAt Go.RowKit

abbrev mkS (l : List UInt8) : ByteArray := ⟨l.toArray⟩
theorem mkS_size (l : List UInt8) : (mkS l).size = l.length := by simp [ByteArray.size]
def digsF (n : Nat) (acc : List UInt8) : List UInt8 := if n = 0 then acc else digsF (n / 10) (UInt8.ofNat (48 + n % 10) :: acc)
theorem digsF_zero (acc : List UInt8) : digsF 0 acc = acc := by rw [digsF]; simp
theorem digsF_step {n : Nat} (h : n ≠ 0) (acc : List UInt8) : digsF n acc = digsF (n / 10) (UInt8.ofNat (48 + n % 10) :: acc) := by rw [digsF, if_neg h]
def markS (k : Nat) : ByteArray := mkS (109 :: digsF k [])
theorem mkS_append (a b : List UInt8) : mkS a ++ mkS b = mkS (a ++ b) := by
  simp [mkS, ByteArray.mk_append_mk]

set_option maxRecDepth 1000000 in
set_option maxHeartbeats 4000000 in
theorem markText_calls (k : Nat) (w : World) (h0 : 1 ≤ k) (hk : k ≤ 4194304) : Calls Tryd.prog 21 #[.int .i64 k] w fun e w' => e = .returned (.string (markS k)) ∧ Below w.heap.size w w' := by
  have hk0 : ¬ (k : Int) ≤ 0 := by omega
  go_enter Tryd.func21, Tryd.ntmps21
  go_wp2
  go_loopw [0, 3] (fun kv ov wr => ∃ (n : Nat) (acc : List UInt8), kv = .int .i64 n ∧ ov = .string (mkS acc) ∧ Hid (digsF n acc = digsF k []) ∧ acc.length + n ≤ k ∧ Below w.heap.size w wr) (fun kv _ _ => (intOf kv).toNat)
  case atStart => exact ⟨k, [], rfl, rfl, rfl, by simp, Below.refl _ _⟩
  case round =>
    obtain ⟨n, acc, rfl, rfl, hd, hlen, hb⟩ := hrel
    by_cases hn : n = 0
    · subst hn
      rw [digsF_zero] at hd
      have e : markS k = mkS [109] ++ mkS acc := by rw [mkS_append, markS, ← hd.out]; rfl
      have hsz : (mkS acc).size ≤ 4194304 := by rw [mkS_size]; omega
      go_wp2
      go_ret
      refine ⟨?_, hb⟩
      rw [e]; rfl
    · have hn1 : (0 : Int) < n := by omega
      obtain ⟨b, hbe⟩ : ∃ b, b = UInt8.ofNat (48 + n % 10) := ⟨_, rfl⟩
      have hbn : (b.toNat : Int) = 48 + (n : Int) % 10 := by
        rw [hbe]; simp only [UInt8.toNat_ofNat', Nat.reducePow]; omega
      have conv : ∀ W : World, W = wr.alloc (.cells #[.int .u8 (48 + (n : Int) % 10)] 5) → (convert 61 9 (.slice (some ⟨wr.heap.size, 0, none⟩) 1 1)).run Tryd.prog W = .ok (.string (mkS [b])) W := by
        rintro W rfl
        refine run_convert_bytes_back _ 61 9 5 ⟨wr.heap.size, 0, none⟩ 1 [b] Tryd.underlying61 Tryd.underlying5 Tryd.underlying9 ?_
        intro j hj
        have : j = 0 := by simp at hj; omega
        subst this
        simp only [List.getElem_cons_zero, hbn]
        simp [Addr.add]
      have conv2 := conv _ rfl
      have hs1 : (mkS [b]).size = 1 := rfl
      have hs2 : (mkS acc).size ≤ 4194304 := by rw [mkS_size]; omega
      have happ : Hid (mkS [b] ++ mkS acc = mkS (b :: acc)) := mkS_append [b] acc
      have hd2 : Hid (digsF (n / 10) (b :: acc) = digsF k []) := by show _ = _; rw [← hd.out, digsF_step hn, hbe]
      clear hd conv hbe hbn
      go_wp2
      go_roundw
      case rel => exact ⟨n / 10, b :: acc, by simp, by rw [happ.out], hd2, by simp; omega, hb.alloc hb.size _⟩
      case measure => simp [intOf]; omega

/-- Through a round: the row at (b, o), n cells; all else of what was there is as it was, but for the blocks of G. -/
structure RowSt (B b o n : Nat) (G : List Nat) (w W : World) (row : List Value) : Prop where
  hb : Below B w W
  out : ∀ c, c < w.heap.size → c ≠ b → c ∉ G → W.heap[c]? = w.heap[c]?
  len : row.length = n
  blk : ∃ cur cur' t, w.heap[b]? = some (.cells cur t (0, 0)) ∧ W.heap[b]? = some (.cells cur' t (0, 0)) ∧ cur'.size = cur.size ∧ o + n ≤ cur.size ∧ (∀ i, i < o ∨ o + n ≤ i → cur'[i]? = cur[i]?) ∧ ∀ i v, row[i]? = some v → cur'[o + i]? = some v
theorem RowSt.lt {B b o n : Nat} {G : List Nat} {w W : World} {row : List Value} (h : RowSt B b o n G w W row) : b < W.heap.size := by
  obtain ⟨cur, cur', t, _, h2, _⟩ := h.blk
  exact heap_lt h2
theorem RowSt.call {B b o n : Nat} {G : List Nat} {w W W' : World} {row : List Value} (h : RowSt B b o n G w W row) (hB : B ≤ b) (hb : Below W.heap.size W W') : RowSt B b o n G w W' row := by
  have hlt := h.lt
  refine ⟨h.hb.trans (hb.mono (by omega)), fun c hc h1 h2 => (hb.block c (Nat.lt_of_lt_of_le hc h.hb.size)).trans (h.out c hc h1 h2), h.len, ?_⟩
  obtain ⟨cur, cur', t, a1, a2, a3⟩ := h.blk
  exact ⟨cur, cur', t, a1, (hb.block b hlt).trans a2, a3⟩
theorem heap_setCell_same {W : World} {b i : Nat} {cur : Array Value} {t : TypeId} (h : W.heap[b]? = some (.cells cur t (0, 0))) (v : Value) : (W.setCell ⟨b, i, none⟩ v).heap[b]? = some (.cells (cur.setIfInBounds i v) t (0, 0)) := by
  simp only [World.setCell, Array.getElem?_modify, h]
  simp
theorem RowSt.set {B b o n : Nat} {G : List Nat} {w W : World} {row : List Value} (h : RowSt B b o n G w W row) (hB : B ≤ b) (i : Nat) (hi : i < n) (v : Value) : RowSt B b o n G w (W.setCell ⟨b, o + i, none⟩ v) (row.set i v) := by
  refine ⟨h.hb.setCell (p := ⟨b, o + i, none⟩) hB v, fun c hc h1 h2 => (Below.heap_setCell _ _ _ _ h1).trans (h.out c hc h1 h2), by simp [h.len], ?_⟩
  obtain ⟨cur, cur', t, a1, a2, a3, a4, a5, a6⟩ := h.blk
  refine ⟨cur, _, t, a1, heap_setCell_same a2 v, by simp [a3], a4, fun j hj => ?_, fun j u hu => ?_⟩
  · rw [Array.getElem?_setIfInBounds_ne (by omega)]
    exact a5 j hj
  · by_cases e : j = i
    · subst e
      have hl := h.len
      rw [List.getElem?_set_self (by omega)] at hu
      injection hu with hu
      subst hu
      simp [show o + j < cur'.size by omega]
    · rw [List.getElem?_set_ne (by omega)] at hu
      rw [Array.getElem?_setIfInBounds_ne (by omega)]
      exact a6 j u hu
theorem RowSt.cell {B b o n : Nat} {G : List Nat} {w W : World} {row : List Value} (h : RowSt B b o n G w W row) (i : Nat) (v : Value) (hv : row[i]? = some v) : W.cell? ⟨b, o + i, none⟩ = some v := by
  obtain ⟨cur, cur', t, a1, a2, a3, a4, a5, a6⟩ := h.blk
  simpa [World.cell?, a2] using a6 i v hv
theorem RowSt.frozen {B b o n : Nat} {G : List Nat} {w W : World} {row : List Value} (h : RowSt B b o n G w W row) (i : Nat) : W.frozen? ⟨b, i, none⟩ = false := by
  obtain ⟨cur, cur', t, a1, a2, _⟩ := h.blk
  simp [World.frozen?, a2]
theorem RowSt.start {B b o n : Nat} {w : World} {row : List Value} {cur : Array Value} {t : TypeId} (hl : row.length = n) (hh : w.heap[b]? = some (.cells cur t (0, 0))) (hs : o + n ≤ cur.size) (hr : w.rangeAt b o row) : RowSt B b o n [] w w row := by
  refine ⟨Below.refl _ _, fun _ _ _ _ => rfl, hl, cur, cur, t, hh, hh, rfl, hs, fun _ _ => rfl, fun i v hv => ?_⟩
  simpa [World.cell?, hh] using hr i v hv
/-- A mark of what the element holds itself: other blocks. -/
theorem RowSt.nest {B b o n : Nat} {G G' : List Nat} {w W W' : World} {row : List Value} (h : RowSt B b o n G w W row) (hb : Below B W W') (ho : ∀ c, c < W.heap.size → c ∉ G' → W'.heap[c]? = W.heap[c]?) (hbG : b ∉ G') : RowSt B b o n (G ++ G') w W' row := by
  refine ⟨h.hb.trans hb, fun c hc h1 h2 => ?_, h.len, ?_⟩
  · simp only [List.mem_append, not_or] at h2
    exact (ho c (Nat.lt_of_lt_of_le hc h.hb.size) h2.2).trans (h.out c hc h1 h2.1)
  · obtain ⟨cur, cur', t, a1, a2, a3⟩ := h.blk
    exact ⟨cur, cur', t, a1, (ho b h.lt hbG).trans a2, a3⟩
/-- The list behind a round: one element exchanged, the blocks the same. -/
theorem ListF.step {α : Type} {R : RdF α} (hR : GoodF R) {k : Nat} {t : TypeId} {w W : World} {v : Value} {xs : List α} {F : List Nat} (h : ListF R k t w v xs F) (hnd : F.Nodup) {j : Nat} (hj : j < xs.length) {B b : Nat} {G : List Nat} {row : List Value} {y : α} :
    ∃ b0 G0 row0, (∃ c, v = .slice (some ⟨b0, 0, none⟩) xs.length c) ∧ row0.length = k ∧ R w row0 xs[j] G0 ∧ b0 ∈ F ∧ b0 ∉ G0 ∧ G0.Nodup ∧ (∀ d ∈ G0, d ∈ F) ∧ RowSt B b0 (j * k) k [] w w row0 ∧
      ∀ W row1 y, RowSt B b0 (j * k) k G0 w W row1 → R W row1 y G0 → ListF R k t W v (xs.set j y) F := by
  rcases h with ⟨h0, _⟩ | ⟨b0, c, Fs, cur, rfl, rfl, hl, hh, hs, hc⟩
  · rw [h0] at hj; simp at hj
  · obtain ⟨row0, r1, r2, r3⟩ := hc j hj
    have hjF : j < Fs.length := by omega
    have eG : Fs[j]?.getD [] = Fs[j] := by simp [hjF]
    rw [eG] at r3
    have hsz : j * k + k ≤ cur.size := by
      have : (j + 1) * k ≤ xs.length * k := Nat.mul_le_mul_right k hj
      rw [Nat.add_mul] at this; omega
    have hmem : ∀ d ∈ Fs[j], d ∈ List.flatten Fs := fun d hd => List.mem_flatten.2 ⟨_, List.getElem_mem hjF, hd⟩
    have hnb : b0 ∉ List.flatten Fs := (List.nodup_cons.1 hnd).1
    refine ⟨b0, Fs[j], row0, ⟨c, rfl⟩, r1, r3, by simp, fun hm => hnb (hmem _ hm), ?_, fun d hd => by simp only [List.mem_cons]; exact .inr (hmem d hd), RowSt.start r1 hh hsz r2, fun W row1 y hS hy => ?_⟩
    · exact (List.pairwise_flatten.1 (List.nodup_cons.1 hnd).2).1 _ (List.getElem_mem hjF)
    · obtain ⟨cur0, cur', t', a1, a2, a3, a4, a5, a6⟩ := hS.blk
      rw [hh] at a1
      injection a1 with a1
      injection a1 with a1 a1t a1f
      subst a1
      subst a1t
      refine .inr ⟨b0, c, Fs, cur', by simp, rfl, by simpa using hl, a2, by rw [a3]; simpa using hs, fun i hi => ?_⟩
      have hi' : i < xs.length := by simpa using hi
      by_cases e : i = j
      · subst e
        refine ⟨row1, hS.len, fun q u hu => ?_, by rw [eG]; simpa using hy⟩
        simpa [World.cell?, a2] using a6 q u hu
      · obtain ⟨row, q1, q2, q3⟩ := hc i hi'
        refine ⟨row, q1, fun q u hu => ?_, ?_⟩
        · have hq : q < k := by rw [← q1]; exact (List.getElem?_eq_some_iff.1 hu).1
          have := q2 q u hu
          simp only [World.cell?, hh] at this
          simp only [World.cell?, a2]
          rw [← this]
          simp only [Option.isSome_none, Bool.false_eq_true, if_false]
          refine a5 _ ?_
          rcases Nat.lt_or_ge i j with hij | hij
          · left
            have : (i + 1) * k ≤ j * k := Nat.mul_le_mul_right k hij
            rw [Nat.add_mul] at this; omega
          · right
            have : (j + 1) * k ≤ i * k := Nat.mul_le_mul_right k (by omega)
            rw [Nat.add_mul] at this; omega
        · have hiF : i < Fs.length := by omega
          have eI : Fs[i]?.getD [] = Fs[i] := by simp [hiF]
          rw [eI] at q3 ⊢
          have hset : (xs.set j y)[i]'hi = xs[i] := by rw [List.getElem_set_ne (by omega)]
          rw [hset]
          refine hR.stab q3 fun d hd => ?_
          have hdm : d ∈ List.flatten Fs := List.mem_flatten.2 ⟨_, List.getElem_mem hiF, hd⟩
          refine hS.out d (hR.lt q3 d hd) (fun e2 => hnb (e2 ▸ hdm)) fun hdj => ?_
          have hp := (List.pairwise_flatten.1 (List.nodup_cons.1 hnd).2).2
          rcases Nat.lt_or_ge i j with hij | hij
          · exact (List.pairwise_iff_getElem.1 hp i j hiF hjF hij) d hd d hdj rfl
          · exact (List.pairwise_iff_getElem.1 hp j i hjF hiF (by omega)) d hdj d hd rfl
end Go.Proofs.YtnoffenkmcmpfaaDoor
