/- spec.l1ReadLong and spec.l1ReadInt at texts of at most 40 bytes. -/
import Derived.Test.YtjbknbinaegpkaaDoorSr
namespace Go.Proofs.YtjbknbinaegpkaaDoor
set_option linter.unusedVariables false
open Go.ChangeShapes Go.WideShapes Go.ChangeAt Go.RowKit

theorem get_toList (s : ByteArray) (i : Nat) (h : i < s.size) : s[i]'h = s.data.toList[i]'(by rw [toList_size]; exact h) := by
  simp [ByteArray.getElem_eq_getElem_data]
theorem foldR_dig (lim : Nat) (s : ByteArray) (i : Nat) (n : Int) (h : i < s.size) (h1 : 48 ≤ (s[i]'h).toNat) (h2 : (s[i]'h).toNat ≤ 57) (h3 : i < lim) :
    foldR lim i n (s.data.toList.drop i) = foldR lim (i + 1) (wrap64 (wrap64 (n * 10) + (((s[i]'h).toNat : Int) - 48))) (s.data.toList.drop (i + 1)) := by
  have hl : i < s.data.toList.length := by rw [toList_size]; exact h
  rw [List.drop_eq_getElem_cons hl, ← get_toList s i h, foldR, if_pos ⟨⟨h1, h2⟩, h3⟩]
theorem foldR_not (lim : Nat) (s : ByteArray) (i : Nat) (n : Int) (h : i < s.size) (h1 : ¬ (48 ≤ (s[i]'h).toNat ∧ (s[i]'h).toNat ≤ 57 ∧ i < lim)) :
    foldR lim i n (s.data.toList.drop i) = foldR lim (i + 1) n (s.data.toList.drop (i + 1)) := by
  have hl : i < s.data.toList.length := by rw [toList_size]; exact h
  rw [List.drop_eq_getElem_cons hl, ← get_toList s i h, foldR, if_neg (fun x => h1 ⟨x.1.1, x.1.2, x.2⟩)]
theorem foldR_past (lim : Nat) : ∀ (l : List UInt8) (i : Nat) (n : Int), lim ≤ i → foldR lim i n l = n := by
  intro l
  induction l with
  | nil => intro i n _; rfl
  | cons c l ih =>
    intro i n h
    rw [foldR, if_neg (by omega), ih _ _ (by omega)]
theorem head_list (l : List UInt8) (h : 0 < l.length) (b : UInt8) : l.head? = some b ↔ l[0] = b := by
  cases l with
  | nil => simp at h
  | cons c r => simp
theorem head_is {s : ByteArray} (h : 0 < s.size) (b : UInt8) : s.data.toList.head? = some b ↔ (s[0]'h) = b := by
  rw [get_toList s 0 h]
  exact head_list _ _ b
theorem byte_is (c b : UInt8) : (((c.toNat : Int)) == ((b.toNat : Nat) : Int)) = decide (c = b) := by
  by_cases h : c = b
  · subst h; simp
  · have : c.toNat ≠ b.toNat := fun e => h (UInt8.toNat_inj.1 e)
    simp only [h, decide_false, beq_eq_false_iff_ne, ne_eq]; omega


set_option maxRecDepth 1000000 in
set_option maxHeartbeats 4000000 in
theorem readLong_calls (s : ByteArray) (hs : s.size ≤ 40) (w : World) : Calls Tryd.prog 26 #[.string s] w fun e w' => (∃ b, e = .returned (.tuple #[.int .i64 (readW 20 s.data.toList), .bool b])) ∧ Below w.heap.size w w' := by
  obtain ⟨N, hN⟩ : ∃ N, foldR 20 0 0 s.data.toList = N := ⟨_, rfl⟩
  go_enter Tryd.func26, Tryd.ntmps26
  go_wp2
  go_loop [4, 5] (fun nv iv => ∃ (n : Int) (i : Nat), nv = .int .i64 n ∧ iv = .int .i64 i ∧ i ≤ s.size ∧ Hid (foldR 20 i n (s.data.toList.drop i) = N)) (fun _ iv => s.size - (intOf iv).toNat)
  case atStart => exact ⟨0, 0, rfl, rfl, by omega, hN⟩
  case round =>
    obtain ⟨n, i, rfl, rfl, hi, hrd⟩ := hrel
    by_cases hlt' : i < s.size ∧ i < 20
    · obtain ⟨hlt, hl20⟩ := hlt'
      have hi0 : (0 : Int) ≤ i := by omega
      have hi1 : (i : Int) < s.size := by omega
      by_cases hdig : 48 ≤ (s[i]'hlt).toNat ∧ (s[i]'hlt).toNat ≤ 57 ∧ i < 20
      · obtain ⟨d1, d2, d3⟩ := hdig
        have hrd2 : Hid (foldR 20 (i + 1) (wrap64 (wrap64 (n * 10) + (((s[i]'hlt).toNat : Int) - 48))) (s.data.toList.drop (i + 1)) = N) := by
          show _ = _
          rw [← hrd.out, foldR_dig 20 s i n hlt d1 d2 d3]
        have c1 : (48 : Int) ≤ ((s[i]'hlt).toNat : Int) := by omega
        have c2 : ((s[i]'hlt).toNat : Int) ≤ 57 := by omega
        have c3 : (i : Int) < 20 := by omega
        clear hrd
        go_wp2
        go_round
        case rel => exact ⟨_, i + 1, rfl, by simp, by omega, hrd2⟩
        case measure => first | (simp [intOf]; done) | (simp [intOf]; omega)
      · have hrd2 : Hid (foldR 20 (i + 1) n (s.data.toList.drop (i + 1)) = N) := by
          show _ = _
          rw [← hrd.out, foldR_not 20 s i n hlt hdig]
        have hcase : ¬ (48 ≤ ((s[i]'hlt).toNat : Int)) ∨ ¬ (((s[i]'hlt).toNat : Int) ≤ 57) := by omega
        have c3 : (i : Int) < 20 := by omega
        clear hrd hdig
        rcases hcase with c1 | c1
        all_goals (
          go_wp2
          all_goals (
            go_round
            case rel => exact ⟨n, i + 1, rfl, by simp, by omega, hrd2⟩
            case measure => first | (simp [intOf]; done) | (simp [intOf]; omega)))
    · have hfin : N = n := by
        rw [← hrd.out]
        rcases Nat.lt_or_ge i 20 with h | h
        · rw [List.drop_eq_nil_of_le (by rw [toList_size]; omega)]; rfl
        · exact foldR_past 20 _ i n h
      have hcase : ¬ (i : Int) < s.size ∨ ((i : Int) < s.size ∧ ¬ (i : Int) < 20) := by omega
      have hik : i ≤ 40 := by omega
      clear hrd hlt'
      subst hfin
      have posH : Hid (∀ z w, Calls Tryd.prog 23 #[.int .i64 z] w fun e w' => (∃ X : ByteArray, e = .returned (.string X)) ∧ Below w.heap.size w w') := fun z w => l1Int_total z w
      by_cases hz : 0 < s.size
      · have e1 : (0 : Int) < s.size := by omega
        by_cases hm : (s[0]'hz) = 45
        · have e2 : (((s[0]'hz).toNat : Int) == 45) = true := by rw [hm]; rfl
          have hres : Hid (readW 20 s.data.toList = wrap64 (-N)) := by
            show _ = _
            unfold readW
            rw [if_pos ((head_is hz 45).2 hm), hN]
          clear hm hN
          rcases hcase with e0 | ⟨e4, e0⟩
          all_goals (
            go_wp2_with (go_at_call 23; refine (posH.out _ _).mono ?_; rintro e w1 ⟨⟨X, rfl⟩, hb⟩)
            go_ret2
            exact ⟨⟨_, by rw [hres.out]; rfl⟩, hb⟩)
        · have e2 : (((s[0]'hz).toNat : Int) == 45) = false := by
            have := byte_is (s[0]'hz) 45
            rw [decide_eq_false hm] at this
            exact this
          have hres : Hid (readW 20 s.data.toList = N) := by
            show _ = _
            unfold readW
            rw [if_neg (fun h => hm ((head_is hz 45).1 h)), hN]
          clear hm hN
          rcases hcase with e0 | ⟨e4, e0⟩
          all_goals (
            go_wp2_with (go_at_call 23; refine (posH.out _ _).mono ?_; rintro e w1 ⟨⟨X, rfl⟩, hb⟩)
            go_ret2
            exact ⟨⟨_, by rw [hres.out]; rfl⟩, hb⟩)
      · have e1 : ¬ (0 : Int) < s.size := by omega
        have hres : Hid (readW 20 s.data.toList = N) := by
          show _ = _
          unfold readW
          have hnil : s.data.toList = [] := List.eq_nil_of_length_eq_zero (by rw [toList_size]; omega)
          rw [hN, hnil, if_neg (by simp)]
        clear hN
        rcases hcase with e0 | ⟨e4, e0⟩
        all_goals (
          go_wp2_with (go_at_call 23; refine (posH.out _ _).mono ?_; rintro e w1 ⟨⟨X, rfl⟩, hb⟩)
          go_ret2
          exact ⟨⟨_, by rw [hres.out]; rfl⟩, hb⟩)

set_option maxRecDepth 1000000 in
set_option maxHeartbeats 4000000 in
theorem readInt_calls (s : ByteArray) (hs : s.size ≤ 40) (w : World) : Calls Tryd.prog 27 #[.string s] w fun e w' => (∃ b, e = .returned (.tuple #[.int .i64 (readW 16 s.data.toList), .bool b])) ∧ Below w.heap.size w w' := by
  obtain ⟨N, hN⟩ : ∃ N, foldR 16 0 0 s.data.toList = N := ⟨_, rfl⟩
  go_enter Tryd.func27, Tryd.ntmps27
  go_wp2
  go_loop [4, 5] (fun nv iv => ∃ (n : Int) (i : Nat), nv = .int .i64 n ∧ iv = .int .i64 i ∧ i ≤ s.size ∧ Hid (foldR 16 i n (s.data.toList.drop i) = N)) (fun _ iv => s.size - (intOf iv).toNat)
  case atStart => exact ⟨0, 0, rfl, rfl, by omega, hN⟩
  case round =>
    obtain ⟨n, i, rfl, rfl, hi, hrd⟩ := hrel
    by_cases hlt : i < s.size
    · have hlq := hlt
      have hi0 : (0 : Int) ≤ i := by omega
      have hi1 : (i : Int) < s.size := by omega
      by_cases hdig : 48 ≤ (s[i]'hlt).toNat ∧ (s[i]'hlt).toNat ≤ 57 ∧ i < 16
      · obtain ⟨d1, d2, d3⟩ := hdig
        have hrd2 : Hid (foldR 16 (i + 1) (wrap64 (wrap64 (n * 10) + (((s[i]'hlt).toNat : Int) - 48))) (s.data.toList.drop (i + 1)) = N) := by
          show _ = _
          rw [← hrd.out, foldR_dig 16 s i n hlt d1 d2 d3]
        have c1 : (48 : Int) ≤ ((s[i]'hlt).toNat : Int) := by omega
        have c2 : ((s[i]'hlt).toNat : Int) ≤ 57 := by omega
        have c3 : (i : Int) < 16 := by omega
        clear hrd
        go_wp2
        go_round
        case rel => exact ⟨_, i + 1, rfl, by simp, by omega, hrd2⟩
        case measure => first | (simp [intOf]; done) | (simp [intOf]; omega)
      · have hrd2 : Hid (foldR 16 (i + 1) n (s.data.toList.drop (i + 1)) = N) := by
          show _ = _
          rw [← hrd.out, foldR_not 16 s i n hlt hdig]
        have hcase : ¬ (48 ≤ ((s[i]'hlt).toNat : Int)) ∨ ¬ (((s[i]'hlt).toNat : Int) ≤ 57) ∨ ¬ ((i : Int) < 16) := by omega
        clear hrd hdig
        rcases hcase with c1 | c1 | c1
        all_goals (
          go_wp2
          all_goals (
            go_round
            case rel => exact ⟨n, i + 1, rfl, by simp, by omega, hrd2⟩
            case measure => first | (simp [intOf]; done) | (simp [intOf]; omega)))
    · have hfin : N = n := by
        rw [← hrd.out, List.drop_eq_nil_of_le (by rw [toList_size]; omega)]; rfl
      have hcase : ¬ (i : Int) < s.size := by omega
      have hik : i ≤ 40 := by omega
      clear hrd hlt
      subst hfin
      have posH : Hid (∀ z w, Calls Tryd.prog 23 #[.int .i64 z] w fun e w' => (∃ X : ByteArray, e = .returned (.string X)) ∧ Below w.heap.size w w') := fun z w => l1Int_total z w
      by_cases hz : 0 < s.size
      · have e1 : (0 : Int) < s.size := by omega
        by_cases hm : (s[0]'hz) = 45
        · have e2 : (((s[0]'hz).toNat : Int) == 45) = true := by rw [hm]; rfl
          have hres : Hid (readW 16 s.data.toList = wrap64 (-N)) := by
            show _ = _
            unfold readW
            rw [if_pos ((head_is hz 45).2 hm), hN]
          clear hm hN
          have e0 := hcase
          all_goals (
            go_wp2_with (go_at_call 23; refine (posH.out _ _).mono ?_; rintro e w1 ⟨⟨X, rfl⟩, hb⟩)
            go_ret2
            exact ⟨⟨_, by rw [hres.out]; rfl⟩, hb⟩)
        · have e2 : (((s[0]'hz).toNat : Int) == 45) = false := by
            have := byte_is (s[0]'hz) 45
            rw [decide_eq_false hm] at this
            exact this
          have hres : Hid (readW 16 s.data.toList = N) := by
            show _ = _
            unfold readW
            rw [if_neg (fun h => hm ((head_is hz 45).1 h)), hN]
          clear hm hN
          have e0 := hcase
          all_goals (
            go_wp2_with (go_at_call 23; refine (posH.out _ _).mono ?_; rintro e w1 ⟨⟨X, rfl⟩, hb⟩)
            go_ret2
            exact ⟨⟨_, by rw [hres.out]; rfl⟩, hb⟩)
      · have e1 : ¬ (0 : Int) < s.size := by omega
        have hres : Hid (readW 16 s.data.toList = N) := by
          show _ = _
          unfold readW
          have hnil : s.data.toList = [] := List.eq_nil_of_length_eq_zero (by rw [toList_size]; omega)
          rw [hN, hnil, if_neg (by simp)]
        clear hN
        have e0 := hcase
        all_goals (
          go_wp2_with (go_at_call 23; refine (posH.out _ _).mono ?_; rintro e w1 ⟨⟨X, rfl⟩, hb⟩)
          go_ret2
          exact ⟨⟨_, by rw [hres.out]; rfl⟩, hb⟩)
end Go.Proofs.YtjbknbinaegpkaaDoor
