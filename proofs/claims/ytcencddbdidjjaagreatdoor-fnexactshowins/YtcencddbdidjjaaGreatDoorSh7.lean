/- impl.ShowIns: what it answers. -/
import Derived.Test.YtcencddbdidjjaaGreatDoorOpW
import Derived.Test.YtcencddbdidjjaaGreatDoorShJn
import Derived.Lib.ItoaLen
namespace Go.Proofs.YtcencddbdidjjaaGreatDoor
set_option linter.unusedVariables false
open Go.ChangeShapes Go.WideShapes Go.ChangeAt Go.RowKit

theorem join_len {M : Nat} : ∀ ws : List (List UInt8), (∀ p ∈ ws, p.length ≤ M) → (Lib.join ws [32]).length ≤ ws.length * (M + 1)
  | [], _ => by simp [Lib.join_nil]
  | x :: r, h => by
    have key : ∀ l : List (List UInt8), (∀ p ∈ l, p.length ≤ M) → (Lib.joinTail [32] l).length ≤ l.length * (M + 1) := by
      intro l
      induction l with
      | nil => intro _; simp [Lib.joinTail]
      | cons y t ih =>
        intro hl
        have h1 := ih (fun p hp => hl p (by simp [hp]))
        have h2 := hl y (by simp)
        unfold Lib.joinTail at h1 ⊢
        simp only [List.map_cons, List.flatten_cons, List.length_append, List.length_cons, List.length_nil] at h1 ⊢
        rw [Nat.add_mul]
        omega
    have h1 := key r (fun p hp => h p (by simp [hp]))
    have h2 := h x (by simp)
    rw [Lib.join_cons, List.length_append, List.length_cons, Nat.add_mul]
    omega
theorem strip_bd : ∀ (n m : Nat) (e : Int), m ≤ n → (strip m e).1 ≤ m ∧ e ≤ (strip m e).2 ∧ (strip m e).2 ≤ e + m := by
  intro n
  induction n with
  | zero => intro m e h; rw [strip, dif_neg (by omega)]; refine ⟨by simp, by simp, by show e ≤ e + (m : Int); omega⟩
  | succ n ih =>
    intro m e h
    by_cases hm : m % 2 = 0 ∧ m ≠ 0
    · rw [strip, dif_pos hm]
      have := ih (m / 2) (e + 1) (by omega)
      omega
    · rw [strip, dif_neg hm]; refine ⟨by simp, by simp, by show e ≤ e + (m : Int); omega⟩
theorem show_len (a : Int) : (showL a).length ≤ 100 := by
  have hs : (sgn a).length ≤ 1 := by unfold sgn; split <;> simp
  have hM := openM_bound a
  have hE := openE_bound a
  unfold showL
  split
  · simp
  split
  · simp; omega
  split
  · simp; omega
  unfold showNum
  have hb := strip_bd _ (openM a).toNat (openE a) (Nat.le_refl _)
  have h1 := dec_len 15 (strip (openM a).toNat (openE a)).1 (by omega)
  have h2 := Lib.itoa_length_le (strip (openM a).toNat (openE a)).2 (by omega) (by omega)
  simp only [List.length_append, List.length_cons]
  omega
theorem words_in (T : List (List UInt8)) (M : Nat) (h : ∀ p ∈ T, p.length ≤ M) (n : Int) : (wordAt T n).length ≤ M := by
  unfold wordAt
  rw [List.getD_eq_getElem?_getD]
  cases e : T[n.toNat]? with
  | none => simp
  | some p => exact h p (List.mem_of_getElem? e)
theorem quo_len (l : List UInt8) : (quoL l).length ≤ 3 * l.length + 2 := by
  have := quoM_len l
  unfold quoL
  simp; omega
theorem opnd_word (k a b : Int) (T C N Y : ByteArray) (zs : List Int) (c : UInt8) (h : letOk k a b T zs c) (ha : B64 a) (hT : T.size ≤ 1048576) (hC : C.size ≤ 1048576) (hN : N.size ≤ 1048576) (hY : Y.size ≤ 1048576) : ∀ p ∈ opndL k a b T C N Y zs c, p.length ≤ 4000000 := by
  have hT' := quo_len T.data.toList
  have eT := toList_size T
  have eC := toList_size C
  have eN := toList_size N
  have eY := toList_size Y
  have i64 : ∀ n, B64 n → (Lib.itoa n).length ≤ 4000000 := fun n hn => by
    have := Lib.itoa_length_le n hn.lo (by have := hn.hi; omega)
    omega
  have hk := words_in kindT 4000000 (by decide) k
  have hv := words_in convT 4000000 (by decide) a
  have hd := words_in condT 4000000 (by decide) b
  have hl := words_in callT 4000000 (by decide) b
  have hs := show_len a
  intro p hp
  rcases h with ⟨rfl, h⟩ | ⟨rfl, h⟩ | ⟨rfl, h⟩ | ⟨rfl, h⟩ | ⟨rfl, h⟩ | ⟨rfl, h⟩ | ⟨rfl, h⟩ | ⟨rfl, h⟩ | ⟨rfl, h⟩ | ⟨rfl, h⟩ | ⟨rfl, h⟩ | rfl | rfl | rfl | ⟨rfl, h0, h1⟩
  · have e : p = wordAt kindT k := List.mem_singleton.1 hp
    rw [e]; exact hk
  · have hp : p ∈ (if k = 0 then [] else [wordAt kindT k]) := hp
    split at hp
    · cases hp
    · rw [List.mem_singleton.1 hp]; exact hk
  · have hp : p ∈ (if k = 3 then [showL a] else [Lib.itoa a]) := hp
    split at hp
    · rw [List.mem_singleton.1 hp]; omega
    · rw [List.mem_singleton.1 hp]; exact i64 a ha
  · have e : p = Lib.itoa a := List.mem_singleton.1 hp
    rw [e]; exact i64 a ha
  · have e : p = Lib.itoa a := List.mem_singleton.1 hp
    rw [e]; exact i64 a ha
  · have e : p = wordAt convT a := List.mem_singleton.1 hp
    rw [e]; exact hv
  · have hp : p ∈ (if k = 3 then [Lib.itoa b] else []) := hp
    split at hp
    · rename_i hk3
      rw [List.mem_singleton.1 hp]; exact i64 b (h hk3)
    · cases hp
  · have e : p = Lib.itoa b := List.mem_singleton.1 hp
    rw [e]; exact i64 b h
  · have e : p = wordAt condT b := List.mem_singleton.1 hp
    rw [e]; exact hd
  · have e : p = wordAt callT b := List.mem_singleton.1 hp
    rw [e]; exact hl
  · have e : p = quoL T.data.toList := List.mem_singleton.1 hp
    rw [e]; omega
  · have e : p = C.data.toList := List.mem_singleton.1 hp
    rw [e]; omega
  · have e : p = N.data.toList := List.mem_singleton.1 hp
    rw [e]; omega
  · have e : p = Y.data.toList := List.mem_singleton.1 hp
    rw [e]; omega
  · have hp : p ∈ zs.map Lib.itoa := hp
    rw [List.mem_map] at hp
    obtain ⟨z, hz, rfl⟩ := hp
    exact i64 z (h1 z hz)
theorem rows_word : ∀ r ∈ rowsT.map Row.word, r.length ≤ 4000000 := by decide
theorem words_bd {o k a b : Int} {T C N Y : ByteArray} {zs : List Int} (hz : zs.length ≤ 1048576) (ha : B64 a) (hT : T.size ≤ 1048576) (hC : C.size ≤ 1048576) (hN : N.size ≤ 1048576) (hY : Y.size ≤ 1048576) (h : ∀ c ∈ (theRow o b rowsT).ops, letOk k a b T zs c) :
    (wordsL o k a b T C N Y zs).length ≤ 5000000 ∧ (Lib.join (wordsL o k a b T C N Y zs) [32]).length ≤ 140737488355328 := by
  have hf := (row_fine o b).1
  have hw : ∀ p ∈ wordsL o k a b T C N Y zs, p.length ≤ 4000000 := by
    intro p hp
    unfold wordsL at hp
    rcases List.mem_cons.1 hp with rfl | hp
    · rcases theRow_mem o b rowsT with e | e
      · rw [e]; simp [noRow]
      · exact rows_word _ (List.mem_map_of_mem e)
    · obtain ⟨c, hc, hp⟩ := List.mem_flatMap.1 hp
      exact opnd_word k a b T C N Y zs c (h c hc) ha hT hC hN hY p hp
  have key : ∀ l : List UInt8, (l.flatMap (opndL k a b T C N Y zs)).length ≤ l.length * 1048577 := by
    intro l
    induction l with
    | nil => simp
    | cons c t ih =>
      have h1 : (opndL k a b T C N Y zs c).length ≤ 1048577 := by
        by_cases hc : c = 76
        · subst hc
          show (zs.map Lib.itoa).length ≤ _
          rw [List.length_map]; omega
        · have := opnd_len k a b T C N Y zs c hc; omega
      simp only [List.flatMap_cons, List.length_append, List.length_cons]
      rw [Nat.add_mul]
      omega
  have hl : (wordsL o k a b T C N Y zs).length ≤ 5000000 := by
    have := key (theRow o b rowsT).ops
    unfold wordsL
    rw [List.length_cons]
    omega
  refine ⟨hl, Nat.le_trans (join_len _ hw) ?_⟩
  exact Nat.le_trans (Nat.mul_le_mul_right _ hl) (by decide)
/-- What ShowIns answers. -/
def showI (o k a b : Int) (T C N Y : ByteArray) (zs : List Int) : List UInt8 := if insB o k a b T C N Y zs 400 40 then Lib.join (wordsL o k a b T C N Y zs) [32] else []

set_option maxRecDepth 1000000 in
set_option maxHeartbeats 4000000 in
theorem implShowIns_calls (o k a b : Int) (T C N Y : ByteArray) (v : Value) (zs : List Int) (w : World) (ht : Tab w v zs) (hz : zs.length ≤ 1048576)
    (ha1 : -9223372036854775808 ≤ a) (ha2 : a < 9223372036854775808) (hT : T.size ≤ 1048576) (hC : C.size ≤ 1048576) (hN : N.size ≤ 1048576) (hY : Y.size ≤ 1048576) (hsh : w.ShapedOpen Tryz.prog) (he : Env w) :
    Calls Tryz.prog 7 #[insV o k a b T C N Y v] w fun e w' => e = .returned (.string (mkS (showI o k a b T C N Y zs))) ∧ Below w.heap.size w w' := by
  have c14 : Hid (∀ W, Below w.heap.size w W → Calls Tryz.prog 14 #[insV o k a b T C N Y v, .int .i64 400, .int .i64 40] W fun e w' => e = .returned (.bool (insB o k a b T C N Y zs 400 40)) ∧ Below W.heap.size W w') :=
    fun W hW => implIns_calls o k a b 400 40 T C N Y v zs W (ht.kept hW) hz ha1 ha2 hT hC hN hY (shaped_below hsh hW)
  have c16 : Hid (insB o k a b T C N Y zs 400 40 = true → ∀ W, Below w.heap.size w W → Calls Tryz.prog 16 #[insV o k a b T C N Y v] W fun e w' => ∃ v, e = .returned v ∧ WordsAt W.heap.size w' v (wordsL o k a b T C N Y zs) ∧ Below W.heap.size W w') := fun hb W hW => by
    have hc : contS o k a b T C N Y zs 400 40 = true := by unfold insB at hb; simp only [Bool.and_eq_true] at hb; exact hb.2
    have hl := ins_let ⟨ha1, ha2⟩ hT hc
    refine words_calls o k a b T C N Y v zs W (ht.kept hW) (he.kept hW) hl (fun p hp => ?_) (Nat.le_trans (row_fine o b).1 (by omega))
    have h1 := flat_len k a b T C N Y zs _ ((row_fine o b).2 p hp)
    have h2 := (row_fine o b).1
    rw [List.length_take] at h1
    rw [List.length_cons]
    omega
  have hbd : Hid (insB o k a b T C N Y zs 400 40 = true → (wordsL o k a b T C N Y zs).length ≤ 5000000 ∧ (Lib.join (wordsL o k a b T C N Y zs) [32]).length ≤ 140737488355328) := fun hb => by
    have hc : contS o k a b T C N Y zs 400 40 = true := by unfold insB at hb; simp only [Bool.and_eq_true] at hb; exact hb.2
    exact words_bd hz ⟨ha1, ha2⟩ hT hC hN hY (ins_let ⟨ha1, ha2⟩ hT hc)
  obtain ⟨ta, tc, rfl⟩ := ht.form
  obtain ⟨n, hn⟩ : ∃ n, n = zs.length := ⟨_, rfl⟩
  rw [← hn] at c14 c16 ⊢
  clear ht hz ha1 ha2 hT hC hN hY hsh he hn
  unfold showI
  obtain ⟨x, hx⟩ : ∃ x, insB o k a b T C N Y zs 400 40 = x := ⟨_, rfl⟩
  rw [hx] at c14 c16 hbd ⊢
  clear hx
  obtain ⟨J, hJ⟩ : ∃ J, Lib.join (wordsL o k a b T C N Y zs) [32] = J := ⟨_, rfl⟩
  rw [hJ]
  have hJH : Hid (Lib.join (wordsL o k a b T C N Y zs) [32] = J) := hJ
  clear hJ
  have hb1 : Hid (Below w.heap.size w (w.alloc (.cells #[.int .i64 o, .int .i64 k, .int .i64 a, .int .i64 b, .string T, .string C, .string N, .string Y, .slice ta n tc] 27))) := (Below.refl _ _).alloc (Nat.le_refl _) _
  have hin : Hid ((w.alloc (.cells #[.int .i64 o, .int .i64 k, .int .i64 a, .int .i64 b, .string T, .string C, .string N, .string Y, .slice ta n tc] 27)).heap[w.heap.size]? = some (.cells #[.int .i64 o, .int .i64 k, .int .i64 a, .int .i64 b, .string T, .string C, .string N, .string Y, .slice ta n tc] 27 (0, 0))) := heap_alloc_last w _
  go_enter Tryz.func7, Tryz.ntmps7
  go_wp2_with (go_at_call 14; fail)
  refine (c14.out _ hb1.out).mono ?_
  rintro e W2 ⟨rfl, hb2⟩
  have hB2 : Hid (Below w.heap.size w W2) := hb1.out.trans (hb2.mono hb1.out.size)
  have hin2 : W2.heap[w.heap.size]? = some (.cells #[.int .i64 o, .int .i64 k, .int .i64 a, .int .i64 b, .string T, .string C, .string N, .string Y, .slice ta n tc] 27 (0, 0)) := by rw [hb2.block _ (Array.getElem?_eq_some_iff.1 hin.out).1]; exact hin.out
  have i0 : W2.cell? ⟨w.heap.size, 0, none⟩ = some (.int .i64 o) := by simp [World.cell?, hin2]
  have i1 : W2.cell? ⟨w.heap.size, 1, none⟩ = some (.int .i64 k) := by simp [World.cell?, hin2]
  have i2 : W2.cell? ⟨w.heap.size, 2, none⟩ = some (.int .i64 a) := by simp [World.cell?, hin2]
  have i3 : W2.cell? ⟨w.heap.size, 3, none⟩ = some (.int .i64 b) := by simp [World.cell?, hin2]
  have i4 : W2.cell? ⟨w.heap.size, 4, none⟩ = some (.string T) := by simp [World.cell?, hin2]
  have i5 : W2.cell? ⟨w.heap.size, 5, none⟩ = some (.string C) := by simp [World.cell?, hin2]
  have i6 : W2.cell? ⟨w.heap.size, 6, none⟩ = some (.string N) := by simp [World.cell?, hin2]
  have i7 : W2.cell? ⟨w.heap.size, 7, none⟩ = some (.string Y) := by simp [World.cell?, hin2]
  have i8 : W2.cell? ⟨w.heap.size, 8, none⟩ = some (.slice ta n tc) := by simp [World.cell?, hin2]
  clear hin2 hb2
  cases x with
  | false =>
    go_wp2
    go_ret
    exact ⟨rfl, hB2.out⟩
  | true =>
    go_wp2_with (go_at_call 16; fail)
    refine (c16.out (by first | trivial | rfl) _ hB2.out).mono ?_
    rintro e W3 ⟨v3, rfl, hv3, hb3⟩
    obtain ⟨g, cap, hv, hBg, hg, hcap, hmx, hcells⟩ := hv3.cells (by unfold wordsL; simp)
    obtain ⟨m, hm⟩ : ∃ m, m = (wordsL o k a b T C N Y zs).length := ⟨_, rfl⟩
    rw [← hm] at hv
    subst hv
    have hm0 : 0 < m := by rw [hm]; unfold wordsL; simp
    have hB3 : Hid (Below w.heap.size w W3) := hB2.out.trans (hb3.mono hB2.out.size)
    have hm2 : m ≤ 1073741000 := by have := (hbd.out (by first | trivial | rfl)).1; omega
    have hl15 : Hid (Calls Tryz.prog 15 #[.slice (some ⟨W3.heap.size, 0, none⟩) 1 1] (W3.alloc (.cells #[.slice (some ⟨g, 0, none⟩) m cap] 34)) fun e w' => e = .returned (.string (mkS J)) ∧ Below (W3.alloc (.cells #[.slice (some ⟨g, 0, none⟩) m cap] 34)).heap.size (W3.alloc (.cells #[.slice (some ⟨g, 0, none⟩) m cap] 34)) w') := by
      show Calls _ _ _ _ _
      rw [← hJH.out]
      refine lineOf_calls W3.heap.size g m cap (wordsL o k a b T C N Y zs) _ (by rw [World.cell?_alloc_new]; rfl) hm hm0 hm2 (by simp; omega) (fun j u hj => ?_) (hbd.out (by first | trivial | rfl)).2
      rw [World.cell?_alloc_past _ _ _ (show g < W3.heap.size from hg)]
      exact hcells j u hj
    clear hm hcells hv3 hb3 hmx hcap hBg hg
    go_wp2_with (go_at_call 15; refine hl15.out.mono ?_; rintro e W4 ⟨rfl, hb4⟩)
    go_ret
    refine ⟨rfl, (hB3.out.alloc hB3.out.size _).trans (hb4.mono ?_)⟩
    have := hB3.out.size
    simp; omega
end Go.Proofs.YtcencddbdidjjaaGreatDoor

/- spec.l3Join. -/
namespace Go.Proofs.YtcencddbdidjjaaGreatDoor
set_option linter.unusedVariables false
open Go.ChangeShapes Go.WideShapes Go.ChangeAt Go.RowKit

theorem join_snoc (sep y : List UInt8) : ∀ ws : List (List UInt8), ws ≠ [] → Lib.join (ws ++ [y]) sep = Lib.join ws sep ++ sep ++ y
  | [], h => absurd rfl h
  | x :: r, _ => by
    rw [List.cons_append, Lib.join_cons, Lib.join_cons]
    simp [Lib.joinTail]

set_option maxRecDepth 1000000 in
set_option maxHeartbeats 4000000 in
theorem join_calls (g n cap : Nat) (ws : List (List UInt8)) (w : World) (hn : n = ws.length) (hn2 : n ≤ 5000000) (hM : ∀ p ∈ ws, p.length ≤ 4000000) (hcells : ∀ j u, (rowS ws)[j]? = some u → w.cell? ⟨g, j, none⟩ = some u) :
    Calls Tryz.prog 11 #[.slice (some ⟨g, 0, none⟩) n cap] w fun e w' => e = .returned (.string (mkS (Lib.join ws [32]))) ∧ Below w.heap.size w w' := by
  have hnH : Hid (n = ws.length) := hn
  have hcH : Hid (∀ j u, (rowS ws)[j]? = some u → w.cell? ⟨g, j, none⟩ = some u) := hcells
  have hMH : Hid (∀ p ∈ ws, p.length ≤ 4000000) := hM
  clear hn hcells hM
  go_enter Tryz.func11, Tryz.ntmps11
  go_wp2
  go_loopw [3, 4] (fun sv iv wr => ∃ (i : Nat) (S : List UInt8), i ≤ n ∧ iv = .int .i64 i ∧ sv = .string (mkS S) ∧ Hid (S = Lib.join (ws.take i) [32]) ∧ wr = w) (fun _ iv _ => n - (intOf iv).toNat)
  case atStart => exact ⟨0, [], by omega, rfl, rfl, rfl, rfl⟩
  case round =>
    obtain ⟨i, S, hi, rfl, rfl, hS, hw⟩ := hrel
    have hw2 := hw.symm
    subst hw2
    by_cases hlt : i < n
    · have hi0 : (0 : Int) ≤ i := by omega
      have hi1 : (i : Int) < n := by omega
      have hltw : i < ws.length := by rw [← hnH.out]; exact hlt
      obtain ⟨y, hy⟩ : ∃ y, ws[i]'hltw = y := ⟨_, rfl⟩
      have hcel : w.cell? ⟨g, i, none⟩ = some (.string (mkS y)) := hcH.out i _ (by simp [rowS, hltw, hy])
      have hyl : (mkS y).size ≤ 4000000 := by
        rw [← toList_size, mkS_list, ← hy]; exact hMH.out _ (List.getElem_mem hltw)
      have hSl : (mkS S).size ≤ 25000000000000 := by
        rw [← toList_size, mkS_list, hS.out]
        have h1 := join_len (M := 4000000) (ws.take i) (fun p hp => hMH.out p (List.mem_of_mem_take hp))
        have h2 : (ws.take i).length ≤ 5000000 := by rw [List.length_take]; omega
        exact Nat.le_trans h1 (Nat.le_trans (Nat.mul_le_mul_right _ h2) (by decide))
      have htk : Hid (ws.take (i + 1) = ws.take i ++ [y]) := by
        show _ = _
        rw [List.take_succ_eq_append_getElem hltw, hy]
      have hne : Hid (0 < i → ws.take i ≠ []) := fun h e => by
        have := congrArg List.length e
        rw [List.length_take, List.length_nil] at this
        omega
      have h32 : (mkS [32]).size = 1 := rfl
      clear hy
      by_cases h0 : (0 : Int) < i
      · have h1s : (mkS S ++ ⟨#[32]⟩).size ≤ 25000000000001 := by rw [ByteArray.size_append]; show _ + 1 ≤ _; omega
        have happ : Hid ((mkS S ++ ⟨#[32]⟩) ++ mkS y = mkS (S ++ [32] ++ y)) := by
          show _ = _
          rw [← mkS_append, ← mkS_append]; rfl
        go_wp2
        go_roundw
        case rel =>
          refine ⟨i + 1, S ++ [32] ++ y, by omega, by go_num, by rw [← happ.out]; try rfl, ?_, by first | trivial | rfl⟩
          show _ = _
          rw [htk.out, join_snoc [32] y _ (hne.out (by omega)), ← hS.out]
        case measure => simp [intOf]; omega
      · have happ : Hid (mkS S ++ mkS y = mkS (S ++ y)) := mkS_append S y
        go_wp2
        go_roundw
        case rel =>
          refine ⟨i + 1, S ++ y, by omega, by go_num, by rw [← happ.out]; try rfl, ?_, by first | trivial | rfl⟩
          have e : i = 0 := by omega
          subst e
          show _ = _
          rw [htk.out, hS.out]
          simp [Lib.join_nil, Lib.join_one]
        case measure => simp [intOf]; omega
    · have hin : i = n := by omega
      have hall : Hid (S = Lib.join ws [32]) := by
        show _ = _
        rw [hS.out, hin, hnH.out, List.take_length]
      go_wp2
      go_ret
      exact ⟨by rw [← hall.out]; rfl, Below.refl _ _⟩
end Go.Proofs.YtcencddbdidjjaaGreatDoor
