/- spec.l1ReadInt: what it answers at any text. -/
import Derived.Test.YtkmjapdippgldabDoorInt
namespace Go.Proofs.YtkmjapdippgldabDoor
set_option linter.unusedVariables false
open Go.ChangeShapes Go.WideShapes Go.ChangeAt Go.RowKit

def digB (b : UInt8) (i : Nat) : Bool := decide (48 ≤ b.toNat) && decide (b.toNat ≤ 57) && decide (i < 16)
theorem rd_dig {l : List UInt8} {i n : Nat} (h : i < l.length) (hd : digB l[i] i = true) : rd (l.drop i) i n = rd (l.drop (i + 1)) (i + 1) (n * 10 + (l[i].toNat - 48)) := by
  rw [List.drop_eq_getElem_cons h, rd]
  simp [digB] at hd
  rw [if_pos ⟨hd.1.1, hd.1.2, hd.2⟩]
theorem rd_not {l : List UInt8} {i n : Nat} (h : i < l.length) (hd : digB l[i] i = false) : rd (l.drop i) i n = rd (l.drop (i + 1)) (i + 1) n := by
  rw [List.drop_eq_getElem_cons h, rd]
  rw [if_neg]
  rintro ⟨h1, h2, h3⟩
  simp [digB, h1, h2, h3] at hd

/-- What l1ReadInt hands back: the number, and whether its numeral is the text. -/
def ReadPost (l : List UInt8) (w : World) (e : Ending) (w' : World) : Prop :=
  ∃ (nv : Int) (b : Bool), e = .returned (.tuple #[.int .i64 nv, .bool b]) ∧ Below w.heap.size w w' ∧ ((nv = rd l 0 0 ∧ b = (Lib.decDigits (rd l 0 0) == l)) ∨ (nv < 0 ∧ ∃ t, l = 45 :: t))

theorem head45 {l : List UInt8} (hl : 0 < l.length) (h : (l[0].toNat : Int) = 45) : ∃ t, l = 45 :: t := by
  cases l with
  | nil => simp at hl
  | cons b r =>
    refine ⟨r, congrArg (· :: r) (UInt8.toNat_inj.1 ?_)⟩
    simp only [List.getElem_cons_zero] at h
    simp only [UInt8.reduceToNat]; omega

set_option maxRecDepth 1000000 in
set_option maxHeartbeats 4000000 in
theorem readInt_calls (s : ByteArray) (w : World) (hs : s.size ≤ 1048576) : Calls Tryd.prog 7 #[.string s] w (ReadPost s.data.toList w) := by
  have hlen := toList_size s
  go_enter Tryd.func7, Tryd.ntmps7
  go_wp2
  go_loop [4, 5] (fun nv iv => ∃ n i : Nat, nv = .int .i64 n ∧ iv = .int .i64 i ∧ i ≤ s.size ∧ n < 10000000000000000 ∧ Hid (i ≤ 16 → n < 10 ^ i) ∧ Hid (rd (s.data.toList.drop i) i n = rd s.data.toList 0 0)) (fun _ iv => s.size - (intOf iv).toNat)
  case atStart => exact ⟨0, 0, rfl, rfl, by omega, by omega, fun _ => by simp, by simp [Hid]⟩
  case round =>
    obtain ⟨n, i, rfl, rfl, hi, hn, hpow, hrd⟩ := hrel
    by_cases hlt : i < s.size
    · have hi0 : (0 : Int) ≤ i := by omega
      have hi1 : (i : Int) < s.size := by omega
      have hg := get_toList s i hlt
      by_cases hdig : digB (s[i]'hlt) i = true
      · have hrd2 : Hid (rd (s.data.toList.drop (i + 1)) (i + 1) (n * 10 + ((s[i]'hlt).toNat - 48)) = rd s.data.toList 0 0) := by
          show _ = _
          rw [← hrd.out, rd_dig (l := s.data.toList) (i := i) (n := n) (by rw [hlen]; exact hlt) (by rw [← hg]; exact hdig), hg]
        simp only [digB, Bool.and_eq_true, decide_eq_true_eq] at hdig
        obtain ⟨⟨d1, d2⟩, d3⟩ := hdig
        have hp1 : n < 1000000000000000 := Nat.lt_of_lt_of_le (hpow.out (by omega)) (Nat.le_trans (Nat.pow_le_pow_right (by decide) (show i ≤ 15 by omega)) (by decide))
        have hp2 : Hid (i + 1 ≤ 16 → n * 10 + ((s[i]'hlt).toNat - 48) < 10 ^ (i + 1)) := fun _ => by
          have := hpow.out (by omega)
          rw [Nat.pow_succ]; omega
        have c1 : (48 : Int) ≤ ((s[i]'hlt).toNat : Int) := by omega
        have c2 : ((s[i]'hlt).toNat : Int) ≤ 57 := by omega
        have c3 : (i : Int) < 16 := by omega
        clear hrd hpow hg hn
        go_wp2
        go_round
        case rel => exact ⟨n * 10 + ((s[i]'hlt).toNat - 48), i + 1, by simp only [Value.int.injEq, true_and]; omega, by simp, by omega, by omega, hp2, hrd2⟩
        case measure => first | (simp [intOf]; done) | (simp [intOf]; omega)
      · have hdig' : digB (s[i]'hlt) i = false := by simpa using hdig
        have hrd2 : Hid (rd (s.data.toList.drop (i + 1)) (i + 1) n = rd s.data.toList 0 0) := by
          show _ = _
          rw [← hrd.out, rd_not (l := s.data.toList) (i := i) (n := n) (by rw [hlen]; exact hlt) (by rw [← hg]; exact hdig')]
        have hp2 : Hid (i + 1 ≤ 16 → n < 10 ^ (i + 1)) := fun h => Nat.lt_of_lt_of_le (hpow.out (by omega)) (Nat.pow_le_pow_right (by decide) (Nat.le_succ i))
        have hcase : ¬ (48 ≤ ((s[i]'hlt).toNat : Int)) ∨ ¬ (((s[i]'hlt).toNat : Int) ≤ 57) ∨ ¬ ((i : Int) < 16) := by
          simp only [digB, Bool.and_eq_false_imp, Bool.and_eq_true, decide_eq_true_eq, decide_eq_false_iff_not] at hdig'
          omega
        clear hrd hpow hg hdig hdig'
        rcases hcase with c1 | c1 | c1
        · go_wp2
          go_round
          case rel => exact ⟨n, i + 1, rfl, by simp, by omega, hn, hp2, hrd2⟩
          case measure => first | (simp [intOf]; done) | (simp [intOf]; omega)
        · go_wp2
          all_goals (
            go_round
            case rel => exact ⟨n, i + 1, rfl, by simp, by omega, hn, hp2, hrd2⟩
            case measure => first | (simp [intOf]; done) | (simp [intOf]; omega))
        · go_wp2
          all_goals (
            go_round
            case rel => exact ⟨n, i + 1, rfl, by simp, by omega, hn, hp2, hrd2⟩
            case measure => first | (simp [intOf]; done) | (simp [intOf]; omega))
    · have hi1 : ¬ (i : Int) < s.size := by omega
      have hfin : rd s.data.toList 0 0 = n := by
        rw [← hrd.out, List.drop_eq_nil_of_le (by rw [hlen]; omega), rd]
      clear hrd hpow
      have posH : Hid (∀ w, Calls Tryd.prog 12 #[.int .i64 n] w fun e w' => e = .returned (.string (mkS (Lib.decDigits n))) ∧ Below w.heap.size w w') := fun w => l1Int_pos n w hn
      have negH : Hid (1 ≤ n → ∀ w, Calls Tryd.prog 12 #[.int .i64 (-(n : Int))] w fun e w' => ∃ X, e = .returned (.string X) ∧ Below w.heap.size w w') := fun h w => l1Int_neg n w h hn
      have hres : Hid (((mkS (Lib.decDigits n)).toList == s.toList) = (Lib.decDigits n == s.data.toList)) := by
        show _ = _
        rw [ByteArray.toList_eq, ByteArray.toList_eq, mkS_list]
      by_cases hm : ∃ t, s.data.toList = 45 :: t
      · obtain ⟨t, ht⟩ := hm
        have hz : 0 < s.size := by rw [← hlen, ht]; simp
        have e1 : (0 : Int) < s.size := by omega
        have e2 : (((s[0]'hz).toNat : Int) == 45) = true := by rw [get_toList s 0 hz]; simp [ht]
        have htH : Hid (∃ t, s.data.toList = 45 :: t) := ⟨t, ht⟩
        clear ht
        by_cases hn0 : n = 0
        · subst hn0
          have zeroH : Hid (∀ w, Calls Tryd.prog 12 #[.int .i64 0] w fun e w' => e = .returned (.string (mkS (Lib.decDigits 0))) ∧ Below w.heap.size w w') := fun w => posH.out w
          clear posH negH
          go_wp2_with (go_at_call 12; refine (zeroH.out _).mono ?_; rintro e w1 ⟨rfl, hb⟩)
          go_ret2
          exact ⟨_, _, rfl, hb, .inl ⟨by first | rfl | (rw [hfin]; rfl), by first | (rw [hfin]; exact hres.out) | exact hres.out⟩⟩
        · have hn1 : (1 : Int) ≤ n := by omega
          have negH2 : Hid (∀ w, Calls Tryd.prog 12 #[.int .i64 (-(n : Int))] w fun e w' => ∃ X, e = .returned (.string X) ∧ Below w.heap.size w w') := negH.out (by omega)
          clear posH negH hres
          go_wp2_with (go_at_call 12; refine (negH2.out _).mono ?_; rintro e w1 ⟨X, rfl, hb⟩)
          go_ret2
          exact ⟨_, _, rfl, hb, .inr ⟨by omega, htH.out⟩⟩
      · have fin : ∀ w1 : World, Below w.heap.size w w1 → ReadPost s.data.toList w (.returned (.tuple #[.int .i64 n, .bool ((mkS (Lib.decDigits n)).toList == s.toList)])) w1 := fun w1 hb =>
          ⟨_, _, rfl, hb, .inl ⟨by rw [hfin], by rw [hfin]; exact hres.out⟩⟩
        have finH : Hid (∀ w1 : World, Below w.heap.size w w1 → ReadPost s.data.toList w (.returned (.tuple #[.int .i64 n, .bool ((mkS (Lib.decDigits n)).toList == s.toList)])) w1) := fin
        clear fin hfin hres negH
        by_cases hz : 0 < s.size
        · have e1 : (0 : Int) < s.size := by omega
          have e2 : (((s[0]'hz).toNat : Int) == 45) = false := by
            rw [beq_eq_false_iff_ne]; intro h
            rw [get_toList s 0 hz] at h
            refine hm ?_
            have hl : 0 < s.data.toList.length := by rw [hlen]; exact hz
            exact head45 hl h
          clear hm
          go_wp2_with (go_at_call 12; refine (posH.out _).mono ?_; rintro e w1 ⟨rfl, hb⟩)
          go_ret2
          exact finH.out _ hb
        · have e1 : ¬ (0 : Int) < s.size := by omega
          clear hm
          go_wp2_with (go_at_call 12; refine (posH.out _).mono ?_; rintro e w1 ⟨rfl, hb⟩)
          go_ret2
          exact finH.out _ hb
end Go.Proofs.YtkmjapdippgldabDoor
