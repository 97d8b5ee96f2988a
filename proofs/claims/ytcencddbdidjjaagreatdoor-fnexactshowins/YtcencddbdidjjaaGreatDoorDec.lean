/- Decimal numerals; spec.l1Int: what it answers at numbers below 10^16 either way. -/
import Derived.Test.YtcencddbdidjjaaGreatDoorNum
import Derived.Test.YtcencddbdidjjaaGreatDoorSplit
import Derived.OwnWalk
import Derived.LoopTactic
import Derived.Below
import Derived.Deep.Light
import Derived.Laws.IdiomStrings
import Derived.Laws.Concat
import Derived.Lib.ItoaNum
import Derived.Lib.QuietBelow
namespace Go.Proofs.YtcencddbdidjjaaGreatDoor
set_option linter.unusedVariables false
open Go.ChangeShapes Go.WideShapes Go.ChangeAt Go.RowKit

theorem mkS_append (a b : List UInt8) : mkS a ++ mkS b = mkS (a ++ b) := by
  simp [mkS, ByteArray.mk_append_mk]

def decF (u : Nat) (acc : List UInt8) : List UInt8 := if u ≤ 9 then UInt8.ofNat (48 + u) :: acc else decF (u / 10) (UInt8.ofNat (48 + u % 10) :: acc)
theorem decF_low {u : Nat} (h : u ≤ 9) (acc : List UInt8) : decF u acc = UInt8.ofNat (48 + u) :: acc := by rw [decF, if_pos h]
theorem decF_step {u : Nat} (h : ¬ u ≤ 9) (acc : List UInt8) : decF u acc = decF (u / 10) (UInt8.ofNat (48 + u % 10) :: acc) := by rw [decF, if_neg h]
theorem decF_dec : ∀ (n u : Nat) (acc : List UInt8), u ≤ n → decF u acc = Lib.decDigits u ++ acc := by
  intro n
  induction n with
  | zero =>
    intro u acc h
    obtain rfl : u = 0 := by omega
    rw [decF_low (by omega), Lib.decDigits]; simp
  | succ n ih =>
    intro u acc h
    by_cases h9 : u ≤ 9
    · rw [decF_low h9, Lib.decDigits, dif_pos (by omega)]; rfl
    · rw [decF_step h9, ih (u / 10) _ (by omega)]
      conv => rhs; rw [Lib.decDigits, dif_neg (by omega)]
      simp

set_option maxRecDepth 1000000 in
theorem conv_one (W : World) (b : UInt8) (z : Int) (hz : z = b.toNat) : (convert 70 9 (.slice (some ⟨W.heap.size, 0, none⟩) 1 1)).run Tryz.prog (W.alloc (.cells #[.int .u8 z] 5)) = .ok (.string (mkS [b])) (W.alloc (.cells #[.int .u8 z] 5)) := by
  subst hz
  refine run_convert_bytes_back _ 70 9 5 ⟨W.heap.size, 0, none⟩ 1 [b] Tryz.underlying70 Tryz.underlying5 Tryz.underlying9 ?_
  intro j hj
  have : j = 0 := by simp at hj; omega
  subst this
  simp [Addr.add]
theorem byte_of {n : Nat} (h : n < 256) : ((UInt8.ofNat n).toNat : Int) = n := by
  simp only [UInt8.toNat_ofNat', Nat.reducePow]; omega
theorem len_step {u len : Nat} (h : u * 10 ^ len < 10 ^ 20) (hu : 9 < u) : (u / 10) * 10 ^ (len + 1) < 10 ^ 20 ∧ len < 20 := by
  constructor
  · rw [Nat.pow_succ, Nat.mul_comm (10 ^ len) 10, ← Nat.mul_assoc]
    exact Nat.lt_of_le_of_lt (Nat.mul_le_mul_right _ (Nat.div_mul_le_self u 10)) h
  · have h2 : 10 ^ len < 10 ^ 20 := Nat.lt_of_le_of_lt (Nat.le_mul_of_pos_left _ (by omega)) h
    exact (Nat.pow_lt_pow_iff_right (by decide)).1 h2

set_option maxRecDepth 1000000 in
set_option maxHeartbeats 4000000 in
theorem l1Int_pos (k : Nat) (w : World) (hk : k < 9223372036854775809) : Calls Tryz.prog 32 #[.int .i64 k] w fun e w' => e = .returned (.string (mkS (Lib.decDigits k))) ∧ Below w.heap.size w w' := by
  have hk0 : ¬ (k : Int) < 0 := by omega
  have hkn : (k : Int) < 9223372036854775809 := by omega
  go_enter Tryz.func32, Tryz.ntmps32
  go_wp2
  go_loopw [3, 4] (fun ov kv wr => ∃ (u : Nat) (acc : List UInt8), kv = .int .u64 u ∧ ov = .string (mkS acc) ∧ Hid (decF u acc = decF k []) ∧ u < 9223372036854775809 ∧ Hid (u * 10 ^ acc.length < 10 ^ 20) ∧ acc.length ≤ 20 ∧ Below w.heap.size w wr) (fun _ kv _ => (intOf kv).toNat)
  case atStart => exact ⟨k, [], rfl, rfl, rfl, hk, by show _ < _; simp; omega, by simp, Below.refl _ _⟩
  case round =>
    obtain ⟨u, acc, rfl, rfl, hd, hu, hpow, hlen, hb⟩ := hrel
    have hs2 : (mkS acc).size ≤ 20 := by rw [← toList_size, mkS_list]; exact hlen
    by_cases h9 : (9 : Int) < u
    · obtain ⟨hp2, hl2⟩ := len_step hpow.out (by omega)
      have hpH : Hid ((u / 10) * 10 ^ (acc.length + 1) < 10 ^ 20) := hp2
      obtain ⟨b, hbe⟩ : ∃ b, b = UInt8.ofNat (48 + u % 10) := ⟨_, rfl⟩
      have conv := conv_one wr b (48 + (u : Int) % 10) (by rw [hbe, byte_of (n := 48 + u % 10) (by omega)]; omega)
      have hd2 : Hid (decF (u / 10) (b :: acc) = decF k []) := by show _ = _; rw [← hd.out, decF_step (u := u) (by omega), hbe]
      have hs1 : (mkS [b]).size = 1 := rfl
      have happ : Hid (mkS [b] ++ mkS acc = mkS (b :: acc)) := mkS_append [b] acc
      clear hd hpow hp2 hbe
      go_wp2
      go_roundw
      case rel => exact ⟨u / 10, b :: acc, by simp, by rw [happ.out], hd2, by omega, hpH, by simp; omega, hb.alloc hb.size _⟩
      case measure => simp [intOf]; omega
    · obtain ⟨b, hbe⟩ : ∃ b, b = UInt8.ofNat (48 + u) := ⟨_, rfl⟩
      have hub : u ≤ 9 := by omega
      have conv := conv_one wr b (48 + (u : Int)) (by rw [hbe, byte_of (n := 48 + u) (by omega)]; omega)
      have hd2 : Hid (mkS (b :: acc) = mkS (Lib.decDigits k)) := by
        show _ = _
        rw [← List.append_nil (Lib.decDigits k), ← decF_dec k k [] (Nat.le_refl _), ← hd.out, decF_low hub, hbe]
      have hs1 : (mkS [b]).size = 1 := rfl
      have happ : mkS [b] ++ mkS acc = mkS (b :: acc) := mkS_append [b] acc
      have happH : Hid (mkS [b] ++ mkS acc = mkS (b :: acc)) := happ
      clear hd hpow hbe happ hu hk hkn
      go_wp2
      go_ret
      refine ⟨?_, hb.alloc hb.size _⟩
      rw [← hd2.out, ← happH.out]; rfl

set_option maxRecDepth 1000000 in
set_option maxHeartbeats 4000000 in
theorem l1Int_neg (k : Nat) (w : World) (h1 : 1 ≤ k) (hk : k < 9223372036854775809) : Calls Tryz.prog 32 #[.int .i64 (-(k : Int))] w fun e w' => e = .returned (.string (mkS (45 :: Lib.decDigits k))) ∧ Below w.heap.size w w' := by
  have hk0 : -(k : Int) < 0 := by omega
  have hw : IntKind.u64.wrap (-IntKind.u64.wrap (-(k : Int))) = k := by
    simp only [IntKind.wrap, IntKind.bits, IntKind.signed]
    simp
    omega
  go_enter Tryz.func32, Tryz.ntmps32
  go_wp2
  clear hw
  go_loopw [3, 4] (fun ov kv wr => ∃ (u : Nat) (acc : List UInt8), kv = .int .u64 u ∧ ov = .string (mkS acc) ∧ Hid (decF u acc = decF k []) ∧ u < 9223372036854775809 ∧ Hid (u * 10 ^ acc.length < 10 ^ 20) ∧ acc.length ≤ 20 ∧ Below w.heap.size w wr) (fun _ kv _ => (intOf kv).toNat)
  case atStart => exact ⟨k, [], rfl, rfl, rfl, hk, by show _ < _; simp; omega, by simp, Below.refl _ _⟩
  case round =>
    obtain ⟨u, acc, rfl, rfl, hd, hu, hpow, hlen, hb⟩ := hrel
    have hs2 : (mkS acc).size ≤ 20 := by rw [← toList_size, mkS_list]; exact hlen
    by_cases h9 : (9 : Int) < u
    · obtain ⟨hp2, hl2⟩ := len_step hpow.out (by omega)
      have hpH : Hid ((u / 10) * 10 ^ (acc.length + 1) < 10 ^ 20) := hp2
      obtain ⟨b, hbe⟩ : ∃ b, b = UInt8.ofNat (48 + u % 10) := ⟨_, rfl⟩
      have conv := conv_one wr b (48 + (u : Int) % 10) (by rw [hbe, byte_of (n := 48 + u % 10) (by omega)]; omega)
      have hd2 : Hid (decF (u / 10) (b :: acc) = decF k []) := by show _ = _; rw [← hd.out, decF_step (u := u) (by omega), hbe]
      have hs1 : (mkS [b]).size = 1 := rfl
      have happ : Hid (mkS [b] ++ mkS acc = mkS (b :: acc)) := mkS_append [b] acc
      clear hpow hp2 hbe hd
      go_wp2
      go_roundw
      case rel => exact ⟨u / 10, b :: acc, by simp, by rw [happ.out], hd2, by omega, hpH, by simp; omega, hb.alloc hb.size _⟩
      case measure => simp [intOf]; omega
    · obtain ⟨b, hbe⟩ : ∃ b, b = UInt8.ofNat (48 + u) := ⟨_, rfl⟩
      have hub : u ≤ 9 := by omega
      have conv := conv_one wr b (48 + (u : Int)) (by rw [hbe, byte_of (n := 48 + u) (by omega)]; omega)
      have hs1 : (mkS [b]).size = 1 := rfl
      have happ : mkS [b] ++ mkS acc = mkS (b :: acc) := mkS_append [b] acc
      have hs3 : (mkS (b :: acc)).size ≤ 21 := by rw [← toList_size, mkS_list]; simp; omega
      have hd2 : Hid (mkS (45 :: Lib.decDigits k) = mkS [45] ++ mkS (b :: acc)) := by
        show _ = _
        rw [mkS_append, ← List.append_nil (Lib.decDigits k), ← decF_dec k k [] (Nat.le_refl _), ← hd.out, decF_low hub, hbe]; rfl
      clear hpow hbe hu hk hd
      go_wp2
      go_ret
      refine ⟨?_, hb.alloc hb.size _⟩
      rw [hd2.out]; rfl
end Go.Proofs.YtcencddbdidjjaaGreatDoor

/- spec.ShowFloat: what it answers at any bits. -/
namespace Go.Proofs.YtcencddbdidjjaaGreatDoor
set_option linter.unusedVariables false
open Go.ChangeShapes Go.WideShapes Go.ChangeAt Go.RowKit

/-- Twos taken out of m and put into e. -/
def strip (m : Nat) (e : Int) : Nat × Int := if h : m % 2 = 0 ∧ m ≠ 0 then strip (m / 2) (e + 1) else (m, e)
termination_by m
decreasing_by omega
theorem strip_even {m : Nat} (h : m % 2 = 0) (h0 : m ≠ 0) (e : Int) : strip m e = strip (m / 2) (e + 1) := by rw [strip, dif_pos ⟨h, h0⟩]
theorem strip_odd {m : Nat} (h : ¬ m % 2 = 0) (e : Int) : strip m e = (m, e) := by rw [strip, dif_neg (fun x => h x.1)]

def sgn (a : Int) : List UInt8 := if a < 0 then [45] else []
def showNum (a : Int) (x : Nat × Int) : List UInt8 := sgn a ++ (Lib.decDigits x.1 ++ 112 :: Lib.itoa x.2)
def showL (a : Int) : List UInt8 :=
  if openC a = 2 then [110, 97, 110] else if openC a = 1 then sgn a ++ [105, 110, 102] else if openM a = 0 then sgn a ++ [48, 112, 48] else showNum a (strip (openM a).toNat (openE a))

theorem openM_bound (a : Int) : 0 ≤ openM a ∧ openM a < 9007199254740992 := by unfold openM openF openK; split <;> (try split) <;> omega
theorem openE_bound (a : Int) : -1074 ≤ openE a ∧ openE a ≤ 971 := by unfold openE openK; split <;> (try split) <;> omega

theorem open_lit (a : Int) (w : World) :
    Calls Tryz.prog 22 #[.int .i64 a] w fun e w' => e = .returned (.agg #[.bool (decide (a < 0)), .int .i64 (openM a), .int .i64 (openE a), .int .i64 (openC a)]) ∧ w' = (w.alloc (.cells #[.bool (decide (a < 0)), .int .i64 (openM a), .int .i64 (openE a), .int .i64 (openC a)] 43)).alloc (.cells #[.bool (decide (a < 0)), .int .i64 (openM a), .int .i64 (openE a), .int .i64 (openC a)] 43) := open_calls a w

theorem l1Int_any (n : Int) (w : World) (h1 : -10000000000000000 < n) (h2 : n < 10000000000000000) : Calls Tryz.prog 32 #[.int .i64 n] w fun e w' => e = .returned (.string (mkS (Lib.itoa n))) ∧ Below w.heap.size w w' := by
  by_cases hn : n < 0
  · obtain ⟨k, rfl⟩ : ∃ k : Nat, n = -(k : Int) := ⟨n.natAbs, by omega⟩
    rw [Lib.itoa, if_pos hn, show (-(k : Int)).natAbs = k by omega]
    exact l1Int_neg k w (by omega) (by omega)
  · obtain ⟨k, rfl⟩ : ∃ k : Nat, n = (k : Int) := ⟨n.toNat, by omega⟩
    rw [Lib.itoa, if_neg hn, show ((k : Int)).toNat = k by omega]
    exact l1Int_pos k w (by omega)

theorem dec_len : ∀ (k u : Nat), u < 10 ^ (k + 1) → (Lib.decDigits u).length ≤ k + 1 := by
  intro k
  induction k with
  | zero => intro u h; rw [Lib.decDigits, dif_pos (by simpa using h)]; simp
  | succ k ih =>
    intro u h
    by_cases h9 : u < 10
    · rw [Lib.decDigits, dif_pos h9]; simp
    · rw [Lib.decDigits, dif_neg h9, List.length_append]
      have := ih (u / 10) (by rw [Nat.pow_succ] at h; omega)
      simp; omega
theorem dec_size {m : Nat} (h : m < 10000000000000000) : (mkS (Lib.decDigits m)).size ≤ 20 := by
  rw [← toList_size, mkS_list]
  have := dec_len 15 m (by omega)
  omega
theorem itoa_size {n : Int} (h1 : -10000000000000000 < n) (h2 : n < 10000000000000000) : (mkS (Lib.itoa n)).size ≤ 20 := by
  rw [← toList_size, mkS_list, Lib.itoa]
  split
  · have := dec_len 15 n.natAbs (by omega)
    simp; omega
  · have := dec_len 15 n.toNat (by omega)
    omega
structure Bd (n : Int) : Prop where
  lo : -10000000000000000 < n
  hi : n < 10000000000000000
def FN (n : Int) : ByteArray := mkS (Lib.itoa n)
theorem itoa_nat (m : Nat) : Lib.itoa (m : Int) = Lib.decDigits m := by rw [Lib.itoa, if_neg (by omega)]; rfl
theorem fn_calls (n : Int) (w : World) (h : Bd n) : Calls Tryz.prog 32 #[.int .i64 n] w fun e w' => e = .returned (.string (FN n)) ∧ Below w.heap.size w w' := l1Int_any n w h.lo h.hi
def mOf (W : World) (b : Nat) : Nat := match W.cell? ⟨b, 1, none⟩ with | some (.int _ z) => z.toNat | _ => 0
theorem mOf_third (w : World) (x y : Obj) (b z e c : Value) (k : IntKind) (n : Int) (hz : z = .int k n) : mOf (((w.alloc x).alloc y).alloc (.cells #[b, z, e, c] 43)) (w.heap.size + 1 + 1) = n.toNat := by
  subst hz
  have h : (((w.alloc x).alloc y).alloc (.cells #[b, .int k n, e, c] 43)).cell? ⟨w.heap.size + 1 + 1, 1, none⟩ = some (.int k n) := by
    have e : w.heap.size + 1 + 1 = ((w.alloc x).alloc y).heap.size := by simp
    rw [e, World.cell?_alloc_mark]; rfl
  unfold mOf
  rw [h]
theorem half_wrap {m : Nat} (h : m < 9007199254740992) : wrap64 ((m : Int) / 2) = ((m / 2 : Nat) : Int) := by
  unfold wrap64; omega
theorem half_step {m j M : Nat} (h0 : m ≠ 0) (he : m % 2 = 0) (h : m * 2 ^ j = M) (hM : M < 9007199254740992) : j + 1 ≤ 53 ∧ m / 2 * 2 ^ (j + 1) = M := by
  have e : m / 2 * 2 ^ (j + 1) = M := by
    rw [Nat.pow_succ, ← h, Nat.mul_comm (2 ^ j) 2, ← Nat.mul_assoc, Nat.div_mul_cancel (Nat.dvd_of_mod_eq_zero he)]
  refine ⟨?_, e⟩
  have h1 : 2 ^ (j + 1) ≤ M := by rw [← e]; exact Nat.le_mul_of_pos_left _ (by omega)
  have h2 : 2 ^ (j + 1) < 2 ^ 53 := Nat.lt_of_le_of_lt h1 (Nat.lt_of_lt_of_eq hM (by decide))
  have := (Nat.pow_lt_pow_iff_right (a := 2) (by decide)).1 h2
  omega

set_option maxRecDepth 1000000 in
set_option maxHeartbeats 1000000 in
theorem specShow_calls (a : Int) (w : World) : Calls Tryz.prog 31 #[.int .i64 a] w fun e w' => e = .returned (.string (mkS (showL a))) ∧ Below w.heap.size w w' := by
  have fin3 : ∀ (x y z : Array Value), Below w.heap.size w (((w.alloc (.cells x 43)).alloc (.cells y 43)).alloc (.cells z 43)) := fun x y z =>
    (((Below.refl _ _).alloc (Nat.le_refl _) _).alloc (by simp) _).alloc (by simp; omega) _
  have fin3H : Hid (∀ (x y z : Array Value), Below w.heap.size w (((w.alloc (.cells x 43)).alloc (.cells y 43)).alloc (.cells z 43))) := fin3
  clear fin3
  by_cases h2 : openC a = 2
  · have hr : showL a = [110, 97, 110] := by unfold showL; rw [if_pos h2]
    go_enter Tryz.func31, Tryz.ntmps31
    go_wp2_with (go_at_call 22; refine (open_lit _ _).mono ?_; rintro e w' ⟨rfl, rfl⟩)
    all_goals (go_ret; exact ⟨by rw [hr]; rfl, fin3H.out _ _ _⟩)
  have h2' : (openC a == 2) = false := by simpa using h2
  by_cases h1 : openC a = 1
  · have hr : showL a = sgn a ++ [105, 110, 102] := by unfold showL; rw [if_neg h2, if_pos h1]
    by_cases hneg : a < 0
    · have hs : sgn a = [45] := by unfold sgn; rw [if_pos hneg]
      go_enter Tryz.func31, Tryz.ntmps31
      go_wp2_with (go_at_call 22; refine (open_lit _ _).mono ?_; rintro e w' ⟨rfl, rfl⟩)
      all_goals (go_ret; exact ⟨by rw [hr, hs]; rfl, fin3H.out _ _ _⟩)
    · have hs : sgn a = [] := by unfold sgn; rw [if_neg hneg]
      go_enter Tryz.func31, Tryz.ntmps31
      go_wp2_with (go_at_call 22; refine (open_lit _ _).mono ?_; rintro e w' ⟨rfl, rfl⟩)
      all_goals (go_ret; exact ⟨by rw [hr, hs]; rfl, fin3H.out _ _ _⟩)
  have h1' : (openC a == 1) = false := by simpa using h1
  by_cases hm : openM a = 0
  · have hr : showL a = sgn a ++ [48, 112, 48] := by unfold showL; rw [if_neg h2, if_neg h1, if_pos hm]
    by_cases hneg : a < 0
    · have hs : sgn a = [45] := by unfold sgn; rw [if_pos hneg]
      go_enter Tryz.func31, Tryz.ntmps31
      go_wp2_with (go_at_call 22; refine (open_lit _ _).mono ?_; rintro e w' ⟨rfl, rfl⟩)
      all_goals (go_ret; exact ⟨by rw [hr, hs]; rfl, fin3H.out _ _ _⟩)
    · have hs : sgn a = [] := by unfold sgn; rw [if_neg hneg]
      go_enter Tryz.func31, Tryz.ntmps31
      go_wp2_with (go_at_call 22; refine (open_lit _ _).mono ?_; rintro e w' ⟨rfl, rfl⟩)
      all_goals (go_ret; exact ⟨by rw [hr, hs]; rfl, fin3H.out _ _ _⟩)
  have hm' : (openM a == 0) = false := by simpa using hm
  have hr : showL a = showNum a (strip (openM a).toNat (openE a)) := by unfold showL; rw [if_neg h2, if_neg h1, if_neg hm]
  obtain ⟨b1, b2⟩ := openM_bound a
  obtain ⟨b3, b4⟩ := openE_bound a
  obtain ⟨M, hM⟩ : ∃ M : Nat, openM a = M := ⟨(openM a).toNat, by omega⟩
  rw [hM] at hr b2
  have hM0 : M ≠ 0 := by intro h; exact hm (by rw [hM, h]; rfl)
  have hrH : Hid (showL a = showNum a (strip M (openE a))) := hr
  have hopen : Hid (∀ w, Calls Tryz.prog 22 #[.int .i64 a] w fun e w' => e = .returned (.agg #[.bool (decide (a < 0)), .int .i64 M, .int .i64 (openE a), .int .i64 (openC a)]) ∧ w' = (w.alloc (.cells #[.bool (decide (a < 0)), .int .i64 M, .int .i64 (openE a), .int .i64 (openC a)] 43)).alloc (.cells #[.bool (decide (a < 0)), .int .i64 M, .int .i64 (openE a), .int .i64 (openC a)] 43)) := fun w => by
    have := open_lit a w
    rwa [hM] at this
  rw [hM] at hm'
  have b2H : Hid (M < 9007199254740992) := by show _ < _; omega
  clear hr h2 h1 hm hM b1 b2
  generalize openE a = E at *
  generalize openC a = c at *
  obtain ⟨S, hS⟩ : ∃ S : List UInt8, S = sgn a := ⟨_, rfl⟩
  have hSl : S.length ≤ 1 := by rw [hS]; unfold sgn; split <;> simp
  have hrH2 : Hid (showL a = S ++ (Lib.decDigits (strip M E).1 ++ 112 :: Lib.itoa (strip M E).2)) := by show _ = _; rw [hrH.out, showNum, hS]
  clear hrH
  by_cases hneg : a < 0
  · have hS2 : S = [45] := by rw [hS]; unfold sgn; rw [if_pos hneg]
    subst hS2
    have hdec : decide (a < 0) = true := by simp [hneg]
    rw [hdec] at hopen
    clear hS hdec hneg
    go_enter Tryz.func31, Tryz.ntmps31
    go_wp2_with (go_at_call 22; refine (hopen.out _).mono ?_; rintro e w' ⟨rfl, rfl⟩)
    go_loopw [] (fun wr => ∃ (m j : Nat), wr = ((w.alloc (.cells #[.bool true, .int .i64 M, .int .i64 E, .int .i64 c] 43)).alloc (.cells #[.bool true, .int .i64 M, .int .i64 E, .int .i64 c] 43)).alloc (.cells #[.bool true, .int .i64 m, .int .i64 (E + j), .int .i64 c] 43) ∧ m ≠ 0 ∧ j ≤ 53 ∧ Hid (m * 2 ^ j = M) ∧ Hid (strip m (E + j) = strip M E)) (fun wr => mOf wr (w.heap.size + 1 + 1))
    case atStart => exact ⟨M, 0, by simp, hM0, by omega, by simp [Hid], by simp [Hid]⟩
    case round =>
      obtain ⟨m, j, rfl, hm0, hj, hmul, hst⟩ := hrel
      by_cases hev : m % 2 = 0
      · have hev1 : (m : Int) % 2 = 0 := by omega
        obtain ⟨hj2, hmul2⟩ := half_step hm0 hev hmul.out b2H.out
        have hmulH : Hid (m / 2 * 2 ^ (j + 1) = M) := hmul2
        have hwH : Hid (wrap64 ((m : Int) / 2) = ((m / 2 : Nat) : Int)) := half_wrap (Nat.lt_of_le_of_lt (by rw [← hmul.out]; exact Nat.le_mul_of_pos_right _ (Nat.two_pow_pos _)) b2H.out)
        have hstH : Hid (strip (m / 2) (E + (j + 1 : Nat)) = strip M E) := by
          show _ = _
          rw [← hst.out, strip_even hev hm0]; congr 1; omega
        clear hmul hst hmul2
        go_wp2
        go_roundw
        case rel => exact ⟨m / 2, j + 1, by rw [hwH.out, show E + (j : Int) + 1 = E + ((j + 1 : Nat) : Int) by omega], by omega, by omega, hmulH, hstH⟩
        case measure => rw [mOf_third _ _ _ _ _ _ _ _ _ rfl, mOf_third _ _ _ _ _ _ _ _ _ rfl, hwH.out]; omega
      · have hev1 : (m : Int) % 2 = 1 := by omega
        have hstr : strip M E = (m, E + (j : Int)) := by rw [← hst.out, strip_odd hev]
        have hml : m < 9007199254740992 := Nat.lt_of_le_of_lt (by rw [← hmul.out]; exact Nat.le_mul_of_pos_right _ (Nat.two_pow_pos _)) b2H.out
        have hres : Hid (mkS (showL a) = ((mkS [45] ++ FN (m : Int)) ++ mkS [112]) ++ FN (E + (j : Int))) := by
          show _ = _
          rw [hrH2.out, hstr, FN, FN, mkS_append, mkS_append, mkS_append, itoa_nat]; simp
        have bm : Bd (m : Int) := ⟨by omega, by omega⟩
        have be : Bd (E + (j : Int)) := ⟨by omega, by omega⟩
        have hd1 : (FN (m : Int)).size ≤ 20 := itoa_size bm.1 bm.2
        have hd2 : (FN (E + (j : Int))).size ≤ 20 := itoa_size be.1 be.2
        clear hmul hst hstr hml hrH2 hev
        go_wp2
        obtain ⟨W3, hW3⟩ : ∃ W3 : World, W3 = ((w.alloc (.cells #[.bool true, .int .i64 M, .int .i64 E, .int .i64 c] 43)).alloc (.cells #[.bool true, .int .i64 M, .int .i64 E, .int .i64 c] 43)).alloc (.cells #[.bool true, .int .i64 m, .int .i64 (E + j), .int .i64 c] 43) := ⟨_, rfl⟩
        rw [← hW3]
        have hlt : w.heap.size + 1 + 1 < W3.heap.size := by rw [hW3]; simp
        have hc1 : W3.cell? ⟨w.heap.size + 1 + 1, 1, none⟩ = some (.int .i64 m) := by
          rw [hW3, show w.heap.size + 1 + 1 = ((w.alloc (.cells #[.bool true, .int .i64 M, .int .i64 E, .int .i64 c] 43)).alloc (.cells #[.bool true, .int .i64 M, .int .i64 E, .int .i64 c] 43)).heap.size by simp, World.cell?_alloc_mark]; rfl
        have hc2 : W3.cell? ⟨w.heap.size + 1 + 1, 2, none⟩ = some (.int .i64 (E + j)) := by
          rw [hW3, show w.heap.size + 1 + 1 = ((w.alloc (.cells #[.bool true, .int .i64 M, .int .i64 E, .int .i64 c] 43)).alloc (.cells #[.bool true, .int .i64 M, .int .i64 E, .int .i64 c] 43)).heap.size by simp, World.cell?_alloc_mark]; rfl
        have hbW : Hid (Below w.heap.size w W3) := by rw [hW3]; exact fin3H.out _ _ _
        have keep : Hid (∀ W : World, Below W3.heap.size W3 W → W.cell? ⟨w.heap.size + 1 + 1, 1, none⟩ = some (.int .i64 m) ∧ W.cell? ⟨w.heap.size + 1 + 1, 2, none⟩ = some (.int .i64 (E + j))) := fun W hb =>
          ⟨by rw [hb.cell (p := ⟨w.heap.size + 1 + 1, 1, none⟩) hlt]; exact hc1, by rw [hb.cell (p := ⟨w.heap.size + 1 + 1, 2, none⟩) hlt]; exact hc2⟩
        clear hW3
        have hb0 : Below W3.heap.size W3 W3 := Below.refl _ _
        generalize (m : Int) = z1 at *
        generalize E + (j : Int) = z2 at *
        have k1 := cell_regrown hc1
        have k2 := cell_regrown hc2
        have cN : ∀ n, Bd n → ∀ d os, Calls Tryz.prog 32 #[.int .i64 n] (Sort.grow (redrawn W3 d) os) fun e w'' => e = .returned (.string (FN n)) ∧ ∃ p : Regrown, w'' = Sort.grow (redrawn W3 p.d) p.os := fun n hn d os => Calls.regrown_of (fn_calls n _ hn)
        clear keep hb0 hlt hc1 hc2
        have n1 : ¬ 9223372036854775807 < 1 + (FN z1).size := by omega
        have n2 : ¬ 9223372036854775807 < 1 + (FN z1).size + 1 := by omega
        have n3 : ¬ 9223372036854775807 < 1 + (FN z1).size + 1 + (FN z2).size := by omega
        refine wp_region_quiet_below (by kernel_rfl) (by kernel_rfl) ?_
        repeat (quiet_step (exact cN _ (by assumption) _ _))
        refine wpQuiet_nil ?_
        intro _ hw'
        obtain ⟨⟨dq, osq⟩, hw''⟩ := hw'
        subst hw''
        go_wp2
        go_ret
        refine ⟨?_, hbW.out.trans ((below_regrown W3 dq osq).mono hbW.out.size)⟩
        rw [hres.out]; rfl
  · have hS2 : S = [] := by rw [hS]; unfold sgn; rw [if_neg hneg]
    subst hS2
    have hdec : decide (a < 0) = false := by simp [hneg]
    rw [hdec] at hopen
    clear hS hdec hneg
    go_enter Tryz.func31, Tryz.ntmps31
    go_wp2_with (go_at_call 22; refine (hopen.out _).mono ?_; rintro e w' ⟨rfl, rfl⟩)
    go_loopw [] (fun wr => ∃ (m j : Nat), wr = ((w.alloc (.cells #[.bool false, .int .i64 M, .int .i64 E, .int .i64 c] 43)).alloc (.cells #[.bool false, .int .i64 M, .int .i64 E, .int .i64 c] 43)).alloc (.cells #[.bool false, .int .i64 m, .int .i64 (E + j), .int .i64 c] 43) ∧ m ≠ 0 ∧ j ≤ 53 ∧ Hid (m * 2 ^ j = M) ∧ Hid (strip m (E + j) = strip M E)) (fun wr => mOf wr (w.heap.size + 1 + 1))
    case atStart => exact ⟨M, 0, by simp, hM0, by omega, by simp [Hid], by simp [Hid]⟩
    case round =>
      obtain ⟨m, j, rfl, hm0, hj, hmul, hst⟩ := hrel
      by_cases hev : m % 2 = 0
      · have hev1 : (m : Int) % 2 = 0 := by omega
        obtain ⟨hj2, hmul2⟩ := half_step hm0 hev hmul.out b2H.out
        have hmulH : Hid (m / 2 * 2 ^ (j + 1) = M) := hmul2
        have hwH : Hid (wrap64 ((m : Int) / 2) = ((m / 2 : Nat) : Int)) := half_wrap (Nat.lt_of_le_of_lt (by rw [← hmul.out]; exact Nat.le_mul_of_pos_right _ (Nat.two_pow_pos _)) b2H.out)
        have hstH : Hid (strip (m / 2) (E + (j + 1 : Nat)) = strip M E) := by
          show _ = _
          rw [← hst.out, strip_even hev hm0]; congr 1; omega
        clear hmul hst hmul2
        go_wp2
        go_roundw
        case rel => exact ⟨m / 2, j + 1, by rw [hwH.out, show E + (j : Int) + 1 = E + ((j + 1 : Nat) : Int) by omega], by omega, by omega, hmulH, hstH⟩
        case measure => rw [mOf_third _ _ _ _ _ _ _ _ _ rfl, mOf_third _ _ _ _ _ _ _ _ _ rfl, hwH.out]; omega
      · have hev1 : (m : Int) % 2 = 1 := by omega
        have hstr : strip M E = (m, E + (j : Int)) := by rw [← hst.out, strip_odd hev]
        have hml : m < 9007199254740992 := Nat.lt_of_le_of_lt (by rw [← hmul.out]; exact Nat.le_mul_of_pos_right _ (Nat.two_pow_pos _)) b2H.out
        have hres : Hid (mkS (showL a) = ((mkS [] ++ FN (m : Int)) ++ mkS [112]) ++ FN (E + (j : Int))) := by
          show _ = _
          rw [hrH2.out, hstr, FN, FN, mkS_append, mkS_append, mkS_append, itoa_nat]; simp
        have bm : Bd (m : Int) := ⟨by omega, by omega⟩
        have be : Bd (E + (j : Int)) := ⟨by omega, by omega⟩
        have hd1 : (FN (m : Int)).size ≤ 20 := itoa_size bm.1 bm.2
        have hd2 : (FN (E + (j : Int))).size ≤ 20 := itoa_size be.1 be.2
        clear hmul hst hstr hml hrH2 hev
        go_wp2
        obtain ⟨W3, hW3⟩ : ∃ W3 : World, W3 = ((w.alloc (.cells #[.bool false, .int .i64 M, .int .i64 E, .int .i64 c] 43)).alloc (.cells #[.bool false, .int .i64 M, .int .i64 E, .int .i64 c] 43)).alloc (.cells #[.bool false, .int .i64 m, .int .i64 (E + j), .int .i64 c] 43) := ⟨_, rfl⟩
        rw [← hW3]
        have hlt : w.heap.size + 1 + 1 < W3.heap.size := by rw [hW3]; simp
        have hc1 : W3.cell? ⟨w.heap.size + 1 + 1, 1, none⟩ = some (.int .i64 m) := by
          rw [hW3, show w.heap.size + 1 + 1 = ((w.alloc (.cells #[.bool false, .int .i64 M, .int .i64 E, .int .i64 c] 43)).alloc (.cells #[.bool false, .int .i64 M, .int .i64 E, .int .i64 c] 43)).heap.size by simp, World.cell?_alloc_mark]; rfl
        have hc2 : W3.cell? ⟨w.heap.size + 1 + 1, 2, none⟩ = some (.int .i64 (E + j)) := by
          rw [hW3, show w.heap.size + 1 + 1 = ((w.alloc (.cells #[.bool false, .int .i64 M, .int .i64 E, .int .i64 c] 43)).alloc (.cells #[.bool false, .int .i64 M, .int .i64 E, .int .i64 c] 43)).heap.size by simp, World.cell?_alloc_mark]; rfl
        have hbW : Hid (Below w.heap.size w W3) := by rw [hW3]; exact fin3H.out _ _ _
        have keep : Hid (∀ W : World, Below W3.heap.size W3 W → W.cell? ⟨w.heap.size + 1 + 1, 1, none⟩ = some (.int .i64 m) ∧ W.cell? ⟨w.heap.size + 1 + 1, 2, none⟩ = some (.int .i64 (E + j))) := fun W hb =>
          ⟨by rw [hb.cell (p := ⟨w.heap.size + 1 + 1, 1, none⟩) hlt]; exact hc1, by rw [hb.cell (p := ⟨w.heap.size + 1 + 1, 2, none⟩) hlt]; exact hc2⟩
        clear hW3
        have hb0 : Below W3.heap.size W3 W3 := Below.refl _ _
        generalize (m : Int) = z1 at *
        generalize E + (j : Int) = z2 at *
        have k1 := cell_regrown hc1
        have k2 := cell_regrown hc2
        have cN : ∀ n, Bd n → ∀ d os, Calls Tryz.prog 32 #[.int .i64 n] (Sort.grow (redrawn W3 d) os) fun e w'' => e = .returned (.string (FN n)) ∧ ∃ p : Regrown, w'' = Sort.grow (redrawn W3 p.d) p.os := fun n hn d os => Calls.regrown_of (fn_calls n _ hn)
        clear keep hb0 hlt hc1 hc2
        have n0 : ¬ 9223372036854775807 < 0 + (FN z1).size := by omega
        have n1 : ¬ 9223372036854775807 < (FN z1).size := by omega
        have n2 : ¬ 9223372036854775807 < (FN z1).size + 1 := by omega
        have n3 : ¬ 9223372036854775807 < (FN z1).size + 1 + (FN z2).size := by omega
        refine wp_region_quiet_below (by kernel_rfl) (by kernel_rfl) ?_
        repeat (quiet_step (exact cN _ (by assumption) _ _))
        refine wpQuiet_nil ?_
        intro _ hw'
        obtain ⟨⟨dq, osq⟩, hw''⟩ := hw'
        subst hw''
        go_wp2
        go_ret
        refine ⟨?_, hbW.out.trans ((below_regrown W3 dq osq).mono hbW.out.size)⟩
        rw [hres.out]; rfl
end Go.Proofs.YtcencddbdidjjaaGreatDoor
