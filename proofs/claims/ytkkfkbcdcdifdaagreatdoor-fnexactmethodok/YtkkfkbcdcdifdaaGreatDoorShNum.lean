/- Decimal numerals: spec.l1Int and spec.l1ReadInt, what they answer. -/
import Derived.Test.YtkkfkbcdcdifdaaGreatDoorText
import Derived.OwnWalk
import Derived.LoopTactic
import Derived.Below
import Derived.Laws.IdiomStrings
import Derived.Laws.Concat
import Derived.Lib.ItoaNum
import Derived.Lib.ParseIntB
import Derived.Deep.Light
namespace Go.Proofs.YtkkfkbcdcdifdaaGreatDoor.Sh
set_option linter.unusedVariables false
open Go.ChangeShapes Go.WideShapes Go.ChangeAt Go.RowKit

def mkS (p : List UInt8) : ByteArray := ⟨p.toArray⟩
theorem mkS_list (p : List UInt8) : (mkS p).data.toList = p := rfl
theorem mkS_append (a b : List UInt8) : mkS a ++ mkS b = mkS (a ++ b) := by
  simp [mkS, ByteArray.mk_append_mk]

def decF (u : Nat) (acc : List UInt8) : List UInt8 := if u ≤ 9 then UInt8.ofNat (48 + u) :: acc else decF (u / 10) (UInt8.ofNat (48 + u % 10) :: acc)
theorem decF_low {u : Nat} (h : u ≤ 9) (acc : List UInt8) : decF u acc = UInt8.ofNat (48 + u) :: acc := by rw [decF, if_pos h]
theorem decF_step {u : Nat} (h : ¬ u ≤ 9) (acc : List UInt8) : decF u acc = decF (u / 10) (UInt8.ofNat (48 + u % 10) :: acc) := by rw [decF, if_neg h]
theorem decF_dec : ∀ (n u : Nat) (acc : List UInt8), u ≤ n → decF u acc = Lib.decDigits u ++ acc := by
  intro n
  induction n with
  | zero =>
    intro u acc h
    obtain rfl : u = 0 := by omega
    rw [decF_low (by omega), Lib.decDigits]; simp
  | succ n ih =>
    intro u acc h
    by_cases h9 : u ≤ 9
    · rw [decF_low h9, Lib.decDigits, dif_pos (by omega)]; rfl
    · rw [decF_step h9, ih (u / 10) _ (by omega)]
      conv => rhs; rw [Lib.decDigits, dif_neg (by omega)]
      simp

/-- The numerals of up to three digits. -/
def dec3 (m : Nat) : List UInt8 := if m < 10 then [UInt8.ofNat (48 + m)] else if m < 100 then [UInt8.ofNat (48 + m / 10), UInt8.ofNat (48 + m % 10)] else [UInt8.ofNat (48 + m / 100), UInt8.ofNat (48 + m / 10 % 10), UInt8.ofNat (48 + m % 10)]
theorem dec3_eq {m : Nat} (h : m < 1000) : Lib.decDigits m = dec3 m := by
  have e := (decF_dec m m [] (Nat.le_refl _)).symm
  rw [List.append_nil] at e
  rw [e]
  unfold dec3
  by_cases h1 : m < 10
  · rw [if_pos h1, decF_low (by omega)]
  · rw [if_neg h1, decF_step (by omega)]
    by_cases h2 : m < 100
    · rw [if_pos h2, decF_low (by omega)]
    · rw [if_neg h2, decF_step (by omega), decF_low (by omega)]
      rw [Nat.div_div_eq_div_mul]

def rd : List UInt8 → Nat → Nat → Nat
  | [], _, n => n
  | b :: t, i, n => rd t (i + 1) (if 48 ≤ b.toNat ∧ b.toNat ≤ 57 ∧ i < 16 then n * 10 + (b.toNat - 48) else n)
def shapeNum (d : List UInt8) : Bool := (List.range 400).any fun m => dec3 m == d

theorem table1 : ((List.range 400).all fun m => rd (dec3 m) 0 0 == m) = true := by decide +kernel
theorem table2 : ((List.range 400).all fun m => match Lib.parseIntB 64 (dec3 m) with | .ok v => v == (m : Int) | _ => false) = true := by decide +kernel
theorem table3 : ((List.range 400).all fun m => match dec3 m with | b :: _ => b != 45 | [] => false) = true := by decide +kernel

theorem shapeNum_iff (d : List UInt8) : shapeNum d = true ↔ ∃ m, m < 400 ∧ d = dec3 m := by
  unfold shapeNum
  rw [List.any_eq_true]
  constructor
  · rintro ⟨m, hm, h⟩
    exact ⟨m, List.mem_range.1 hm, (beq_iff_eq.1 h).symm⟩
  · rintro ⟨m, hm, h⟩
    exact ⟨m, List.mem_range.2 hm, by rw [h]; simp⟩
theorem shapeNum_read (d : List UInt8) : (decide (rd d 0 0 < 400) && (Lib.decDigits (rd d 0 0) == d)) = shapeNum d := by
  rw [Bool.eq_iff_iff, shapeNum_iff]
  simp only [Bool.and_eq_true, decide_eq_true_eq, beq_iff_eq]
  constructor
  · rintro ⟨h1, h2⟩
    exact ⟨_, h1, by rw [← dec3_eq (by omega)]; exact h2.symm⟩
  · rintro ⟨m, hm, rfl⟩
    have h := List.all_eq_true.1 table1 m (List.mem_range.2 hm)
    rw [beq_iff_eq] at h
    rw [h]
    exact ⟨hm, dec3_eq (by omega)⟩
theorem shapeNum_minus (t : List UInt8) : shapeNum (45 :: t) = false := by
  cases h : shapeNum (45 :: t) with
  | false => rfl
  | true =>
    obtain ⟨m, hm, e⟩ := (shapeNum_iff _).1 h
    have h := List.all_eq_true.1 table3 m (List.mem_range.2 hm)
    rw [← e] at h
    simp at h
theorem shapeNum_nil : shapeNum [] = false := by
  cases h : shapeNum [] with
  | false => rfl
  | true =>
    obtain ⟨m, hm, e⟩ := (shapeNum_iff _).1 h
    have h := List.all_eq_true.1 table3 m (List.mem_range.2 hm)
    rw [← e] at h
    simp at h
theorem shapeNum_parse {d : List UInt8} {v : Int} (h : Lib.parseIntB 64 d = .ok v) : (decide (0 ≤ v) && decide (v < 400) && (Lib.itoa v == d)) = shapeNum d := by
  rw [Bool.eq_iff_iff, shapeNum_iff]
  simp only [Bool.and_eq_true, decide_eq_true_eq, beq_iff_eq]
  constructor
  · rintro ⟨⟨h1, h2⟩, h3⟩
    refine ⟨v.toNat, by omega, ?_⟩
    rw [← dec3_eq (by omega), ← h3, Lib.itoa, if_neg (by omega)]
  · rintro ⟨m, hm, rfl⟩
    have h' := List.all_eq_true.1 table2 m (List.mem_range.2 hm)
    rw [h] at h'
    simp at h'
    subst h'
    refine ⟨⟨by omega, by omega⟩, ?_⟩
    rw [Lib.itoa, if_neg (by omega)]
    exact dec3_eq (m := m) (by omega)
theorem shapeNum_bad {d : List UInt8} (h : ∀ v, Lib.parseIntB 64 d ≠ .ok v) : shapeNum d = false := by
  cases hs : shapeNum d with
  | false => rfl
  | true =>
    obtain ⟨m, hm, rfl⟩ := (shapeNum_iff _).1 hs
    have h' := List.all_eq_true.1 table2 m (List.mem_range.2 hm)
    split at h'
    · rename_i v hv; exact absurd hv (h v)
    · cases h'
end Go.Proofs.YtkkfkbcdcdifdaaGreatDoor.Sh

/- spec.l1Int: what it answers at numbers below 10^16 either way. -/
namespace Go.Proofs.YtkkfkbcdcdifdaaGreatDoor.Sh
set_option linter.unusedVariables false
open Go.ChangeShapes Go.WideShapes Go.ChangeAt Go.RowKit

theorem conv_one (W : World) (b : UInt8) (z : Int) (hz : z = b.toNat) : (convert 183 9 (.slice (some ⟨W.heap.size, 0, none⟩) 1 1)).run Tryz.prog (W.alloc (.cells #[.int .u8 z] 5)) = .ok (.string (mkS [b])) (W.alloc (.cells #[.int .u8 z] 5)) := by
  subst hz
  refine run_convert_bytes_back _ 183 9 5 ⟨W.heap.size, 0, none⟩ 1 [b] Tryz.underlying183 Tryz.underlying5 Tryz.underlying9 ?_
  intro j hj
  have : j = 0 := by simp at hj; omega
  subst this
  simp [Addr.add]
theorem byte_of {n : Nat} (h : n < 256) : ((UInt8.ofNat n).toNat : Int) = n := by
  simp only [UInt8.toNat_ofNat', Nat.reducePow]; omega
theorem len_step {u len : Nat} (h : u * 10 ^ len < 10 ^ 20) (hu : 9 < u) : (u / 10) * 10 ^ (len + 1) < 10 ^ 20 ∧ len < 20 := by
  constructor
  · rw [Nat.pow_succ, Nat.mul_comm (10 ^ len) 10, ← Nat.mul_assoc]
    exact Nat.lt_of_le_of_lt (Nat.mul_le_mul_right _ (Nat.div_mul_le_self u 10)) h
  · have h2 : 10 ^ len < 10 ^ 20 := Nat.lt_of_le_of_lt (Nat.le_mul_of_pos_left _ (by omega)) h
    exact (Nat.pow_lt_pow_iff_right (by decide)).1 h2

set_option maxRecDepth 1000000 in
set_option maxHeartbeats 4000000 in
theorem l1Int_pos (k : Nat) (w : World) (hk : k < 10000000000000000) : Calls Tryz.prog 152 #[.int .i64 k] w fun e w' => e = .returned (.string (mkS (Lib.decDigits k))) ∧ Below w.heap.size w w' := by
  have hk0 : ¬ (k : Int) < 0 := by omega
  have hkn : (k : Int) < 10000000000000000 := by omega
  go_enter Tryz.func152, Tryz.ntmps152
  go_wp2
  go_loopw [3, 4] (fun ov kv wr => ∃ (u : Nat) (acc : List UInt8), kv = .int .u64 u ∧ ov = .string (mkS acc) ∧ Hid (decF u acc = decF k []) ∧ u < 10000000000000000 ∧ Hid (u * 10 ^ acc.length < 10 ^ 20) ∧ acc.length ≤ 20 ∧ Below w.heap.size w wr) (fun _ kv _ => (intOf kv).toNat)
  case atStart => exact ⟨k, [], rfl, rfl, rfl, hk, by show _ < _; simp; omega, by simp, Below.refl _ _⟩
  case round =>
    obtain ⟨u, acc, rfl, rfl, hd, hu, hpow, hlen, hb⟩ := hrel
    have hs2 : (mkS acc).size ≤ 20 := by rw [← toList_size, mkS_list]; exact hlen
    by_cases h9 : (9 : Int) < u
    · obtain ⟨hp2, hl2⟩ := len_step hpow.out (by omega)
      have hpH : Hid ((u / 10) * 10 ^ (acc.length + 1) < 10 ^ 20) := hp2
      obtain ⟨b, hbe⟩ : ∃ b, b = UInt8.ofNat (48 + u % 10) := ⟨_, rfl⟩
      have conv := conv_one wr b (48 + (u : Int) % 10) (by rw [hbe, byte_of (n := 48 + u % 10) (by omega)]; omega)
      have hd2 : Hid (decF (u / 10) (b :: acc) = decF k []) := by show _ = _; rw [← hd.out, decF_step (u := u) (by omega), hbe]
      have hs1 : (mkS [b]).size = 1 := rfl
      have happ : Hid (mkS [b] ++ mkS acc = mkS (b :: acc)) := mkS_append [b] acc
      clear hd hpow hp2 hbe
      go_wp2
      go_roundw
      case rel => exact ⟨u / 10, b :: acc, by simp, by rw [happ.out], hd2, by omega, hpH, by simp; omega, hb.alloc hb.size _⟩
      case measure => simp [intOf]; omega
    · obtain ⟨b, hbe⟩ : ∃ b, b = UInt8.ofNat (48 + u) := ⟨_, rfl⟩
      have hub : u ≤ 9 := by omega
      have conv := conv_one wr b (48 + (u : Int)) (by rw [hbe, byte_of (n := 48 + u) (by omega)]; omega)
      have hd2 : Hid (mkS (b :: acc) = mkS (Lib.decDigits k)) := by
        show _ = _
        rw [← List.append_nil (Lib.decDigits k), ← decF_dec k k [] (Nat.le_refl _), ← hd.out, decF_low hub, hbe]
      have hs1 : (mkS [b]).size = 1 := rfl
      have happ : mkS [b] ++ mkS acc = mkS (b :: acc) := mkS_append [b] acc
      have happH : Hid (mkS [b] ++ mkS acc = mkS (b :: acc)) := happ
      clear hd hpow hbe happ hu hk hkn
      go_wp2
      go_ret
      refine ⟨?_, hb.alloc hb.size _⟩
      rw [← hd2.out, ← happH.out]; rfl

set_option maxRecDepth 1000000 in
set_option maxHeartbeats 4000000 in
theorem l1Int_neg (k : Nat) (w : World) (h1 : 1 ≤ k) (hk : k < 10000000000000000) : Calls Tryz.prog 152 #[.int .i64 (-(k : Int))] w fun e w' => ∃ X, e = .returned (.string X) ∧ Below w.heap.size w w' := by
  have hk0 : -(k : Int) < 0 := by omega
  have hw : IntKind.u64.wrap (-IntKind.u64.wrap (-(k : Int))) = k := by
    simp only [IntKind.wrap, IntKind.bits, IntKind.signed]
    simp
    omega
  go_enter Tryz.func152, Tryz.ntmps152
  go_wp2
  clear hw
  go_loopw [3, 4] (fun ov kv wr => ∃ (u : Nat) (acc : List UInt8), kv = .int .u64 u ∧ ov = .string (mkS acc) ∧ u < 10000000000000000 ∧ Hid (u * 10 ^ acc.length < 10 ^ 20) ∧ acc.length ≤ 20 ∧ Below w.heap.size w wr) (fun _ kv _ => (intOf kv).toNat)
  case atStart => exact ⟨k, [], rfl, rfl, hk, by show _ < _; simp; omega, by simp, Below.refl _ _⟩
  case round =>
    obtain ⟨u, acc, rfl, rfl, hu, hpow, hlen, hb⟩ := hrel
    have hs2 : (mkS acc).size ≤ 20 := by rw [← toList_size, mkS_list]; exact hlen
    by_cases h9 : (9 : Int) < u
    · obtain ⟨hp2, hl2⟩ := len_step hpow.out (by omega)
      have hpH : Hid ((u / 10) * 10 ^ (acc.length + 1) < 10 ^ 20) := hp2
      obtain ⟨b, hbe⟩ : ∃ b, b = UInt8.ofNat (48 + u % 10) := ⟨_, rfl⟩
      have conv := conv_one wr b (48 + (u : Int) % 10) (by rw [hbe, byte_of (n := 48 + u % 10) (by omega)]; omega)
      have hs1 : (mkS [b]).size = 1 := rfl
      have happ : Hid (mkS [b] ++ mkS acc = mkS (b :: acc)) := mkS_append [b] acc
      clear hpow hp2 hbe
      go_wp2
      go_roundw
      case rel => exact ⟨u / 10, b :: acc, by simp, by rw [happ.out], by omega, hpH, by simp; omega, hb.alloc hb.size _⟩
      case measure => simp [intOf]; omega
    · obtain ⟨b, hbe⟩ : ∃ b, b = UInt8.ofNat (48 + u) := ⟨_, rfl⟩
      have hub : u ≤ 9 := by omega
      have conv := conv_one wr b (48 + (u : Int)) (by rw [hbe, byte_of (n := 48 + u) (by omega)]; omega)
      have hs1 : (mkS [b]).size = 1 := rfl
      have happ : mkS [b] ++ mkS acc = mkS (b :: acc) := mkS_append [b] acc
      have hs3 : (mkS (b :: acc)).size ≤ 21 := by rw [← toList_size, mkS_list]; simp; omega
      clear hpow hbe hu hk
      go_wp2
      go_ret
      first | exact ⟨⟨_, rfl⟩, hb.alloc hb.size _⟩ | exact ⟨_, rfl, hb.alloc hb.size _⟩
end Go.Proofs.YtkkfkbcdcdifdaaGreatDoor.Sh

/- spec.l1ReadInt: what it answers at any text. -/
namespace Go.Proofs.YtkkfkbcdcdifdaaGreatDoor.Sh
set_option linter.unusedVariables false
open Go.ChangeShapes Go.WideShapes Go.ChangeAt Go.RowKit

def digB (b : UInt8) (i : Nat) : Bool := decide (48 ≤ b.toNat) && decide (b.toNat ≤ 57) && decide (i < 16)
theorem rd_dig {l : List UInt8} {i n : Nat} (h : i < l.length) (hd : digB l[i] i = true) : rd (l.drop i) i n = rd (l.drop (i + 1)) (i + 1) (n * 10 + (l[i].toNat - 48)) := by
  rw [List.drop_eq_getElem_cons h, rd]
  simp [digB] at hd
  rw [if_pos ⟨hd.1.1, hd.1.2, hd.2⟩]
theorem rd_not {l : List UInt8} {i n : Nat} (h : i < l.length) (hd : digB l[i] i = false) : rd (l.drop i) i n = rd (l.drop (i + 1)) (i + 1) n := by
  rw [List.drop_eq_getElem_cons h, rd]
  rw [if_neg]
  rintro ⟨h1, h2, h3⟩
  simp [digB, h1, h2, h3] at hd

/-- What l1ReadInt hands back: the number, and whether its numeral is the text. -/
def ReadPost (l : List UInt8) (w : World) (e : Ending) (w' : World) : Prop :=
  ∃ (nv : Int) (b : Bool), e = .returned (.tuple #[.int .i64 nv, .bool b]) ∧ Below w.heap.size w w' ∧ ((nv = rd l 0 0 ∧ b = (Lib.decDigits (rd l 0 0) == l)) ∨ (nv < 0 ∧ ∃ t, l = 45 :: t))

theorem head45 {l : List UInt8} (hl : 0 < l.length) (h : (l[0].toNat : Int) = 45) : ∃ t, l = 45 :: t := by
  cases l with
  | nil => simp at hl
  | cons b r =>
    refine ⟨r, congrArg (· :: r) (UInt8.toNat_inj.1 ?_)⟩
    simp only [List.getElem_cons_zero] at h
    simp only [UInt8.reduceToNat]; omega

set_option maxRecDepth 1000000 in
set_option maxHeartbeats 4000000 in
theorem readInt_calls (s : ByteArray) (w : World) (hs : s.size ≤ 1048576) : Calls Tryz.prog 136 #[.string s] w (ReadPost s.data.toList w) := by
  have hlen := toList_size s
  go_enter Tryz.func136, Tryz.ntmps136
  go_wp2
  go_loop [4, 5] (fun nv iv => ∃ n i : Nat, nv = .int .i64 n ∧ iv = .int .i64 i ∧ i ≤ s.size ∧ n < 10000000000000000 ∧ Hid (i ≤ 16 → n < 10 ^ i) ∧ Hid (rd (s.data.toList.drop i) i n = rd s.data.toList 0 0)) (fun _ iv => s.size - (intOf iv).toNat)
  case atStart => exact ⟨0, 0, rfl, rfl, by omega, by omega, fun _ => by simp, by simp [Hid]⟩
  case round =>
    obtain ⟨n, i, rfl, rfl, hi, hn, hpow, hrd⟩ := hrel
    by_cases hlt : i < s.size
    · have hi0 : (0 : Int) ≤ i := by omega
      have hi1 : (i : Int) < s.size := by omega
      have hg := get_toList s i hlt
      by_cases hdig : digB (s[i]'hlt) i = true
      · have hrd2 : Hid (rd (s.data.toList.drop (i + 1)) (i + 1) (n * 10 + ((s[i]'hlt).toNat - 48)) = rd s.data.toList 0 0) := by
          show _ = _
          rw [← hrd.out, rd_dig (l := s.data.toList) (i := i) (n := n) (by rw [hlen]; exact hlt) (by rw [← hg]; exact hdig), hg]
        simp only [digB, Bool.and_eq_true, decide_eq_true_eq] at hdig
        obtain ⟨⟨d1, d2⟩, d3⟩ := hdig
        have hp1 : n < 1000000000000000 := Nat.lt_of_lt_of_le (hpow.out (by omega)) (Nat.le_trans (Nat.pow_le_pow_right (by decide) (show i ≤ 15 by omega)) (by decide))
        have hp2 : Hid (i + 1 ≤ 16 → n * 10 + ((s[i]'hlt).toNat - 48) < 10 ^ (i + 1)) := fun _ => by
          have := hpow.out (by omega)
          rw [Nat.pow_succ]; omega
        have c1 : (48 : Int) ≤ ((s[i]'hlt).toNat : Int) := by omega
        have c2 : ((s[i]'hlt).toNat : Int) ≤ 57 := by omega
        have c3 : (i : Int) < 16 := by omega
        clear hrd hpow hg hn
        go_wp2
        go_round
        case rel => exact ⟨n * 10 + ((s[i]'hlt).toNat - 48), i + 1, by simp only [Value.int.injEq, true_and]; omega, by simp, by omega, by omega, hp2, hrd2⟩
        case measure => first | (simp [intOf]; done) | (simp [intOf]; omega)
      · have hdig' : digB (s[i]'hlt) i = false := by simpa using hdig
        have hrd2 : Hid (rd (s.data.toList.drop (i + 1)) (i + 1) n = rd s.data.toList 0 0) := by
          show _ = _
          rw [← hrd.out, rd_not (l := s.data.toList) (i := i) (n := n) (by rw [hlen]; exact hlt) (by rw [← hg]; exact hdig')]
        have hp2 : Hid (i + 1 ≤ 16 → n < 10 ^ (i + 1)) := fun h => Nat.lt_of_lt_of_le (hpow.out (by omega)) (Nat.pow_le_pow_right (by decide) (Nat.le_succ i))
        have hcase : ¬ (48 ≤ ((s[i]'hlt).toNat : Int)) ∨ ¬ (((s[i]'hlt).toNat : Int) ≤ 57) ∨ ¬ ((i : Int) < 16) := by
          simp only [digB, Bool.and_eq_false_imp, Bool.and_eq_true, decide_eq_true_eq, decide_eq_false_iff_not] at hdig'
          omega
        clear hrd hpow hg hdig hdig'
        rcases hcase with c1 | c1 | c1
        · go_wp2
          go_round
          case rel => exact ⟨n, i + 1, rfl, by simp, by omega, hn, hp2, hrd2⟩
          case measure => first | (simp [intOf]; done) | (simp [intOf]; omega)
        · go_wp2
          all_goals (
            go_round
            case rel => exact ⟨n, i + 1, rfl, by simp, by omega, hn, hp2, hrd2⟩
            case measure => first | (simp [intOf]; done) | (simp [intOf]; omega))
        · go_wp2
          all_goals (
            go_round
            case rel => exact ⟨n, i + 1, rfl, by simp, by omega, hn, hp2, hrd2⟩
            case measure => first | (simp [intOf]; done) | (simp [intOf]; omega))
    · have hi1 : ¬ (i : Int) < s.size := by omega
      have hfin : rd s.data.toList 0 0 = n := by
        rw [← hrd.out, List.drop_eq_nil_of_le (by rw [hlen]; omega), rd]
      clear hrd hpow
      have posH : Hid (∀ w, Calls Tryz.prog 152 #[.int .i64 n] w fun e w' => e = .returned (.string (mkS (Lib.decDigits n))) ∧ Below w.heap.size w w') := fun w => l1Int_pos n w hn
      have negH : Hid (1 ≤ n → ∀ w, Calls Tryz.prog 152 #[.int .i64 (-(n : Int))] w fun e w' => ∃ X, e = .returned (.string X) ∧ Below w.heap.size w w') := fun h w => l1Int_neg n w h hn
      have hres : Hid (((mkS (Lib.decDigits n)).toList == s.toList) = (Lib.decDigits n == s.data.toList)) := by
        show _ = _
        rw [ByteArray.toList_eq, ByteArray.toList_eq, mkS_list]
      by_cases hm : ∃ t, s.data.toList = 45 :: t
      · obtain ⟨t, ht⟩ := hm
        have hz : 0 < s.size := by rw [← hlen, ht]; simp
        have e1 : (0 : Int) < s.size := by omega
        have e2 : (((s[0]'hz).toNat : Int) == 45) = true := by rw [get_toList s 0 hz]; simp [ht]
        have htH : Hid (∃ t, s.data.toList = 45 :: t) := ⟨t, ht⟩
        clear ht
        by_cases hn0 : n = 0
        · subst hn0
          have zeroH : Hid (∀ w, Calls Tryz.prog 152 #[.int .i64 0] w fun e w' => e = .returned (.string (mkS (Lib.decDigits 0))) ∧ Below w.heap.size w w') := fun w => posH.out w
          clear posH negH
          go_wp2_with (go_at_call 152; refine (zeroH.out _).mono ?_; rintro e w1 ⟨rfl, hb⟩)
          go_ret2
          exact ⟨_, _, rfl, hb, .inl ⟨by first | rfl | (rw [hfin]; rfl), by first | (rw [hfin]; exact hres.out) | exact hres.out⟩⟩
        · have hn1 : (1 : Int) ≤ n := by omega
          have negH2 : Hid (∀ w, Calls Tryz.prog 152 #[.int .i64 (-(n : Int))] w fun e w' => ∃ X, e = .returned (.string X) ∧ Below w.heap.size w w') := negH.out (by omega)
          clear posH negH hres
          go_wp2_with (go_at_call 152; refine (negH2.out _).mono ?_; rintro e w1 ⟨X, rfl, hb⟩)
          go_ret2
          exact ⟨_, _, rfl, hb, .inr ⟨by omega, htH.out⟩⟩
      · have fin : ∀ w1 : World, Below w.heap.size w w1 → ReadPost s.data.toList w (.returned (.tuple #[.int .i64 n, .bool ((mkS (Lib.decDigits n)).toList == s.toList)])) w1 := fun w1 hb =>
          ⟨_, _, rfl, hb, .inl ⟨by rw [hfin], by rw [hfin]; exact hres.out⟩⟩
        have finH : Hid (∀ w1 : World, Below w.heap.size w w1 → ReadPost s.data.toList w (.returned (.tuple #[.int .i64 n, .bool ((mkS (Lib.decDigits n)).toList == s.toList)])) w1) := fin
        clear fin hfin hres negH
        by_cases hz : 0 < s.size
        · have e1 : (0 : Int) < s.size := by omega
          have e2 : (((s[0]'hz).toNat : Int) == 45) = false := by
            rw [beq_eq_false_iff_ne]; intro h
            rw [get_toList s 0 hz] at h
            refine hm ?_
            have hl : 0 < s.data.toList.length := by rw [hlen]; exact hz
            exact head45 hl h
          clear hm
          go_wp2_with (go_at_call 152; refine (posH.out _).mono ?_; rintro e w1 ⟨rfl, hb⟩)
          go_ret2
          exact finH.out _ hb
        · have e1 : ¬ (0 : Int) < s.size := by omega
          clear hm
          go_wp2_with (go_at_call 152; refine (posH.out _).mono ?_; rintro e w1 ⟨rfl, hb⟩)
          go_ret2
          exact finH.out _ hb
end Go.Proofs.YtkkfkbcdcdifdaaGreatDoor.Sh
