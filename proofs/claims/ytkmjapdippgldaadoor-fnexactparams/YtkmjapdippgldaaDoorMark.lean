/- laws.markText: a text that hangs on its number alone. -/
import Derived.Test.YtkmjapdippgldaaDoorSig4
import Derived.Laws.IdiomStrings
import Derived.Laws.Concat
import Derived.Deep.RegionWith
namespace Go.Proofs.YtkmjapdippgldaaDoor
set_option linter.unusedVariables false
open Go.ChangeShapes Go.WideShapes Go.ChangeAt Go.RowKit

def digsF (n : Nat) (acc : List UInt8) : List UInt8 := if n = 0 then acc else digsF (n / 10) (UInt8.ofNat (48 + n % 10) :: acc)
theorem digsF_zero (acc : List UInt8) : digsF 0 acc = acc := by rw [digsF]; simp
theorem digsF_step {n : Nat} (h : n ≠ 0) (acc : List UInt8) : digsF n acc = digsF (n / 10) (UInt8.ofNat (48 + n % 10) :: acc) := by rw [digsF, if_neg h]
def markS (k : Nat) : ByteArray := mkS (109 :: digsF k [])
theorem mkS_append (a b : List UInt8) : mkS a ++ mkS b = mkS (a ++ b) := by
  simp [mkS, ByteArray.mk_append_mk]

set_option maxRecDepth 1000000 in
set_option maxHeartbeats 4000000 in
theorem markText_calls (k : Nat) (w : World) (h0 : 1 ≤ k) (hk : k ≤ 4194304) : Calls Tryd.prog 27 #[.int .i64 k] w fun e w' => e = .returned (.string (markS k)) ∧ Below w.heap.size w w' := by
  have hk0 : ¬ (k : Int) ≤ 0 := by omega
  go_enter Tryd.func27, Tryd.ntmps27
  go_wp2
  go_loopw [0, 3] (fun kv ov wr => ∃ (n : Nat) (acc : List UInt8), kv = .int .i64 n ∧ ov = .string (mkS acc) ∧ Hid (digsF n acc = digsF k []) ∧ acc.length + n ≤ k ∧ Below w.heap.size w wr) (fun kv _ _ => (intOf kv).toNat)
  case atStart => exact ⟨k, [], rfl, rfl, rfl, by simp, Below.refl _ _⟩
  case round =>
    obtain ⟨n, acc, rfl, rfl, hd, hlen, hb⟩ := hrel
    by_cases hn : n = 0
    · subst hn
      rw [digsF_zero] at hd
      have e : markS k = mkS [109] ++ mkS acc := by rw [mkS_append, markS, ← hd.out]; rfl
      have hsz : (mkS acc).size ≤ 4194304 := by rw [← toList_size, mkS_list]; omega
      go_wp2
      go_ret
      refine ⟨?_, hb⟩
      rw [e]; rfl
    · have hn1 : (0 : Int) < n := by omega
      obtain ⟨b, hbe⟩ : ∃ b, b = UInt8.ofNat (48 + n % 10) := ⟨_, rfl⟩
      have hbn : (b.toNat : Int) = 48 + (n : Int) % 10 := by
        rw [hbe]; simp only [UInt8.toNat_ofNat', Nat.reducePow]; omega
      have conv : ∀ W : World, W = wr.alloc (.cells #[.int .u8 (48 + (n : Int) % 10)] 5) → (convert 49 9 (.slice (some ⟨wr.heap.size, 0, none⟩) 1 1)).run Tryd.prog W = .ok (.string (mkS [b])) W := by
        rintro W rfl
        refine run_convert_bytes_back _ 49 9 5 ⟨wr.heap.size, 0, none⟩ 1 [b] Tryd.underlying49 Tryd.underlying5 Tryd.underlying9 ?_
        intro j hj
        have : j = 0 := by simp at hj; omega
        subst this
        simp only [List.getElem_cons_zero, hbn]
        simp [Addr.add]
      have conv2 := conv _ rfl
      have hs1 : (mkS [b]).size = 1 := rfl
      have hs2 : (mkS acc).size ≤ 4194304 := by rw [← toList_size, mkS_list]; omega
      have happ : Hid (mkS [b] ++ mkS acc = mkS (b :: acc)) := mkS_append [b] acc
      have hd2 : Hid (digsF (n / 10) (b :: acc) = digsF k []) := by show _ = _; rw [← hd.out, digsF_step hn, hbe]
      clear hd conv hbe hbn
      go_wp2
      go_roundw
      case rel => exact ⟨n / 10, b :: acc, by simp, by rw [happ.out], hd2, by simp; omega, hb.alloc hb.size _⟩
      case measure => simp [intOf]; omega

/-- A row of texts at 'v': its block, its cells, nothing of it frozen. -/
structure Texts (W : World) (g n cap : Nat) (f : Nat → ByteArray) : Prop where
  lt : g < W.heap.size
  le : n ≤ cap
  max : cap ≤ maxLen
  cells : ∃ cur, W.heap[g]? = some (.cells cur 9 (0, 0)) ∧ cur.size = cap ∧ ∀ i, i < n → cur[i]? = some (.string (f i))
theorem Texts.cell {W : World} {g n cap : Nat} {f : Nat → ByteArray} (h : Texts W g n cap f) (i : Nat) (hi : i < n) : W.cell? ⟨g, i, none⟩ = some (.string (f i)) := by
  obtain ⟨cur, h1, h2, h3⟩ := h.cells
  simp only [World.cell?, h1]
  simpa using h3 i hi
theorem Texts.frozen {W : World} {g n cap : Nat} {f : Nat → ByteArray} (h : Texts W g n cap f) (i : Nat) : W.frozen? ⟨g, i, none⟩ = false := by
  obtain ⟨cur, h1, h2, h3⟩ := h.cells
  simp [World.frozen?, h1]
theorem Texts.kept {W W' : World} {g n cap B : Nat} {f : Nat → ByteArray} (h : Texts W g n cap f) (hb : Below B W W') (hB : g < B) : Texts W' g n cap f := by
  obtain ⟨cur, h1, h2, h3⟩ := h.cells
  exact ⟨Nat.lt_of_lt_of_le h.lt hb.size, h.le, h.max, cur, by rw [hb.block _ hB]; exact h1, h2, h3⟩
theorem Texts.congr {W : World} {g n cap : Nat} {f f' : Nat → ByteArray} (h : Texts W g n cap f) (e : ∀ i, i < n → f i = f' i) : Texts W g n cap f' := by
  obtain ⟨cur, h1, h2, h3⟩ := h.cells
  exact ⟨h.lt, h.le, h.max, cur, h1, h2, fun i hi => by rw [← e i hi]; exact h3 i hi⟩
theorem Texts.set {W : World} {g n cap : Nat} {f : Nat → ByteArray} (h : Texts W g n cap f) (i : Nat) (x : ByteArray) : Texts (W.setCell ⟨g, i, none⟩ (.string x)) g n cap (fun j => if j = i then x else f j) := by
  obtain ⟨cur, h1, h2, h3⟩ := h.cells
  refine ⟨by simpa [World.setCell] using h.lt, h.le, h.max, cur.setIfInBounds i (.string x), ?_, by simpa using h2, fun j hj => ?_⟩
  · simp only [World.setCell, Array.getElem?_modify, h1]
    simp
  · by_cases hji : j = i
    · subst hji
      have : j < cur.size := by rw [h2]; exact Nat.lt_of_lt_of_le hj h.le
      simp [this]
    · simp only [hji, if_false]
      rw [Array.getElem?_setIfInBounds_ne (by omega)]
      exact h3 j hj
theorem texts_of {W : World} {base : Nat} {ps : List (List UInt8)} {v : Value} {g cap : Nat} (h : RowAt W base ps v g cap) : Texts W g ps.length cap (fun i => mkS (ps.getD i [])) := by
  obtain ⟨_, h2 | ⟨g', cap', cur, hv, hg, hh, hn, hc, hsz, ht⟩⟩ := h.own
  · have e := h.eq; rw [h2.1] at e; cases e
  · have e := h.eq
    rw [hv] at e
    simp only [Value.slice.injEq, Option.some.injEq, Addr.mk.injEq, and_true, true_and] at e
    obtain ⟨rfl, rfl⟩ := e
    refine ⟨h.lt, h.len, h.max, cur, hh, by simpa using hsz, fun i hi => ?_⟩
    have h3 : (rowS ps)[i]? = some (.string (mkS ps[i])) := by simp [rowS, hi]
    rw [← ht, List.getElem?_take, if_pos (by omega)] at h3
    rw [List.getD_eq_getElem?_getD, List.getElem?_eq_getElem hi]
    simpa using h3

set_option maxRecDepth 1000000 in
set_option maxHeartbeats 4000000 in
theorem eqTexts_calls (g g' n cap cap' : Nat) (f : Nat → ByteArray) (w : World) (hn : n ≤ 1048577) (h1 : Texts w g n cap f) (h2 : Texts w g' n cap' f) :
    Calls Tryd.prog 16 #[.slice (some ⟨g, 0, none⟩) n cap, .slice (some ⟨g', 0, none⟩) n cap'] w fun e w' => e = .returned (.bool true) ∧ Below w.heap.size w w' := by
  have h1H : Hid (Texts w g n cap f) := h1
  have h2H : Hid (Texts w g' n cap' f) := h2
  clear h1 h2
  go_enter Tryd.func16, Tryd.ntmps16
  go_wp2
  go_loopw [5] (fun iv wr => ∃ i m : Nat, iv = .int .i64 i ∧ i ≤ n ∧ wr = w.drewN m) (fun iv _ => n - (intOf iv).toNat)
  case atStart => exact ⟨0, 0, rfl, Nat.zero_le _, rfl⟩
  case round =>
    obtain ⟨i, m, rfl, hi, rfl⟩ := hrel
    by_cases hin : i < n
    · have hin1 : (i : Int) < n := by omega
      have hin0 : (0 : Int) ≤ i := by omega
      have c1 := h1H.out.cell i hin
      have c2 := h2H.out.cell i hin
      go_wp2
      go_quiet (fail)
      go_wp2
      go_roundw
      case rel => exact ⟨i + 1, _, by simp, by omega, rfl⟩
      case measure => first | (simp [intOf]; done) | (simp [intOf]; omega)
    · have hin1 : ¬ (i : Int) < n := by omega
      go_wp2
      go_ret
      exact ⟨rfl, below_drewN (Below.refl _ _) m⟩

set_option maxRecDepth 1000000 in
set_option maxHeartbeats 4000000 in
theorem markTexts_calls (g n cap k B : Nat) (f : Nat → ByteArray) (w : World) (hn : n ≤ 1048577) (hk1 : 1 ≤ k) (hk2 : k ≤ 1048577) (h1 : Texts w g n cap f) (hB : B ≤ g) :
    Calls Tryd.prog 17 #[.slice (some ⟨g, 0, none⟩) n cap, .int .i64 k] w fun e w' => e = .returned (.int .i64 ((k + n : Nat) : Int)) ∧ Below B w w' ∧ Texts w' g n cap (fun i => markS (k + i)) := by
  have h1H : Hid (Texts w g n cap f) := h1
  clear h1
  go_enter Tryd.func17, Tryd.ntmps17
  go_wp2
  go_loopw [1, 5] (fun kv iv wr => ∃ i : Nat, kv = .int .i64 ((k + i : Nat) : Int) ∧ iv = .int .i64 i ∧ i ≤ n ∧ Hid (Below B w wr) ∧ Hid (Texts wr g n cap (fun j => if j < i then markS (k + j) else f j))) (fun _ iv _ => n - (intOf iv).toNat)
  case atStart => exact ⟨0, by simp, rfl, Nat.zero_le _, Below.refl _ _, by show Texts _ _ _ _ _; simpa using h1H.out⟩
  case round =>
    obtain ⟨i, rfl, rfl, hi, hbw, htx⟩ := hrel
    by_cases hin : i < n
    · have hin1 : (i : Int) < n := by omega
      have hin0 : (0 : Int) ≤ i := by omega
      have markH : Hid (∀ w, Calls Tryd.prog 27 #[.int .i64 ((k + i : Nat) : Int)] w fun e w' => e = .returned (.string (markS (k + i))) ∧ Below w.heap.size w w') := fun w => markText_calls (k + i) w (by omega) (by omega)
      obtain ⟨q, hq⟩ : ∃ q : Nat, k + i = q := ⟨_, rfl⟩
      rw [hq] at markH ⊢
      have hqb : q ≤ 2097154 := by omega
      go_wp2_with (first
        | (go_at_call 27; refine (markH.out _).mono ?_; rintro e w1 ⟨rfl, hb1⟩
           have htx1 := htx.out.kept hb1 htx.out.lt
           have hc := htx1.cell i hin
           have hf := htx1.frozen i
           have hbB : Hid (Below B w (w1.setCell ⟨g, i, none⟩ (.string (markS q)))) := (hbw.out.trans (hb1.mono (Nat.le_trans hB (Nat.le_of_lt htx.out.lt)))).setCell hB _
           have htx2 : Hid (Texts (w1.setCell ⟨g, i, none⟩ (.string (markS q))) g n cap (fun j => if j < i + 1 then markS (k + j) else f j)) := (htx1.set i (markS q)).congr (fun j hj => by
             by_cases e1 : j = i
             · subst e1; simp [hq]
             · by_cases e2 : j < i
               · simp [e1, e2, show j < i + 1 by omega]
               · simp [e1, e2, show ¬ j < i + 1 by omega])
           clear htx1 hb1 hbw htx))
      go_roundw
      case rel => exact ⟨i + 1, by simp only [Value.int.injEq, true_and]; omega, by simp, by omega, hbB, htx2⟩
      case measure => first | (simp [intOf]; done) | (simp [intOf]; omega)
    · have hin1 : ¬ (i : Int) < n := by omega
      obtain rfl : i = n := by omega
      go_wp2
      go_ret
      exact ⟨rfl, hbw.out, htx.out.congr (fun j hj => by simp [hj])⟩

set_option maxRecDepth 1000000 in
set_option maxHeartbeats 4000000 in
theorem heldTexts_calls (g n cap k : Nat) (w : World) (hn : n ≤ 1048577) (hk1 : 1 ≤ k) (hk2 : k ≤ 1048577) (h1 : Texts w g n cap (fun i => markS (k + i))) :
    Calls Tryd.prog 18 #[.slice (some ⟨g, 0, none⟩) n cap, .int .i64 k] w fun e w' => e = .returned (.int .i64 ((k + n : Nat) : Int)) ∧ Below w.heap.size w w' := by
  have h1H : Hid (Texts w g n cap (fun i => markS (k + i))) := h1
  clear h1
  go_enter Tryd.func18, Tryd.ntmps18
  go_wp2
  go_loopw [1, 5] (fun kv iv wr => ∃ i : Nat, kv = .int .i64 ((k + i : Nat) : Int) ∧ iv = .int .i64 i ∧ i ≤ n ∧ Hid (Below w.heap.size w wr)) (fun _ iv _ => n - (intOf iv).toNat)
  case atStart => exact ⟨0, by simp, rfl, Nat.zero_le _, Below.refl _ _⟩
  case round =>
    obtain ⟨i, rfl, rfl, hi, hbw⟩ := hrel
    by_cases hin : i < n
    · have hin1 : (i : Int) < n := by omega
      have hin0 : (0 : Int) ≤ i := by omega
      have markH : Hid (∀ w, Calls Tryd.prog 27 #[.int .i64 ((k + i : Nat) : Int)] w fun e w' => e = .returned (.string (markS (k + i))) ∧ Below w.heap.size w w') := fun w => markText_calls (k + i) w (by omega) (by omega)
      have hc : ∀ W : World, Below w.heap.size w W → W.cell? ⟨g, i, none⟩ = some (.string (markS (k + i))) := fun W hW => (h1H.out.kept hW h1H.out.lt).cell i hin
      have hc0 := hc _ hbw.out
      have hcd : ∀ m, (wr.drewN m).cell? ⟨g, i, none⟩ = some (.string (markS (k + i))) := fun m => hc _ (below_drewN hbw.out m)
      have hcH : Hid (∀ W : World, Below w.heap.size w W → W.cell? ⟨g, i, none⟩ = some (.string (markS (k + i)))) := hc
      clear hc
      obtain ⟨q, hq⟩ : ∃ q : Nat, k + i = q := ⟨_, rfl⟩
      rw [hq] at markH hc0 hcd hcH ⊢
      have hqb : q ≤ 2097154 := by omega
      generalize markS q = X at *
      go_wp2
      go_region_with (go_at_call 27; refine (markH.out _).mono ?_; rintro e w1 ⟨rfl, hb1⟩; have hb2 : Below w.heap.size w w1 := (by first | exact hbw.out.trans (hb1.mono hbw.out.size) | exact hbw.out.drew.trans (hb1.mono hbw.out.size)); have hc1 := hcH.out _ hb2)
      all_goals (
        go_wp2
        go_roundw
        case rel => exact ⟨i + 1, by simp only [Value.int.injEq, true_and]; omega, by simp, by omega, by assumption⟩
        case measure => first | (simp [intOf]; done) | (simp [intOf]; omega))
    · have hin1 : ¬ (i : Int) < n := by omega
      obtain rfl : i = n := by omega
      go_wp2
      go_ret
      exact ⟨rfl, hbw.out⟩

theorem eqNone_calls (a b : Option Addr) (c d : Nat) (w : World) : Calls Tryd.prog 16 #[.slice a 0 c, .slice b 0 d] w fun e w' => e = .returned (.bool true) ∧ w' = w := by
  go_enter Tryd.func16, Tryd.ntmps16
  go_wp2
  go_loop [5] (fun iv => iv = .int .i64 0) (fun _ => 0)
  case atStart => rfl
  case round =>
    subst hrel
    go_wp2
    go_ret
    exact ⟨rfl, rfl⟩
theorem markNone_calls (a : Option Addr) (c : Nat) (w : World) : Calls Tryd.prog 17 #[.slice a 0 c, .int .i64 1] w fun e w' => e = .returned (.int .i64 1) ∧ w' = w := by
  go_enter Tryd.func17, Tryd.ntmps17
  go_wp2
  go_loop [1, 5] (fun kv iv => kv = .int .i64 1 ∧ iv = .int .i64 0) (fun _ _ => 0)
  case atStart => exact ⟨rfl, rfl⟩
  case round =>
    obtain ⟨rfl, rfl⟩ := hrel
    go_wp2
    go_ret
    exact ⟨rfl, rfl⟩
theorem heldNone_calls (a : Option Addr) (c : Nat) (w : World) : Calls Tryd.prog 18 #[.slice a 0 c, .int .i64 1] w fun e w' => e = .returned (.int .i64 1) ∧ w' = w := by
  go_enter Tryd.func18, Tryd.ntmps18
  go_wp2
  go_loop [1, 5] (fun kv iv => kv = .int .i64 1 ∧ iv = .int .i64 0) (fun _ _ => 0)
  case atStart => exact ⟨rfl, rfl⟩
  case round =>
    obtain ⟨rfl, rfl⟩ := hrel
    go_wp2
    go_ret
    exact ⟨rfl, rfl⟩
theorem none_of {W : World} {base : Nat} {v : Value} {xs : List Value} (h : W.ownsRow base 9 1 v 0 xs) : ∃ a c, v = .slice a 0 c := by
  obtain ⟨_, ⟨rfl, _⟩ | ⟨g, cap, cur, rfl, _⟩⟩ := h
  · exact ⟨_, _, rfl⟩
  · exact ⟨_, _, rfl⟩
end Go.Proofs.YtkmjapdippgldaaDoor
