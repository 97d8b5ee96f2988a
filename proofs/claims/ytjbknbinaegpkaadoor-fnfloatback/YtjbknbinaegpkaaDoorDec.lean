/- Decimal numerals; spec.l1Int: what it answers at numbers below 10^16 either way. -/
import Derived.Test.YtjbknbinaegpkaaDoorOpen
import Derived.OwnWalk
import Derived.LoopTactic
import Derived.Below
import Derived.Deep.Light
import Derived.Laws.IdiomStrings
import Derived.Laws.Concat
import Derived.Lib.ItoaNum
namespace Go.Proofs.YtjbknbinaegpkaaDoor
set_option linter.unusedVariables false
open Go.ChangeShapes Go.WideShapes Go.ChangeAt Go.RowKit

theorem toList_size (s : ByteArray) : s.data.toList.length = s.size := Array.length_toList
def mkS (p : List UInt8) : ByteArray := ⟨p.toArray⟩
theorem mkS_list (p : List UInt8) : (mkS p).data.toList = p := rfl
theorem mkS_append (a b : List UInt8) : mkS a ++ mkS b = mkS (a ++ b) := by
  simp [mkS, ByteArray.mk_append_mk]

def decF (u : Nat) (acc : List UInt8) : List UInt8 := if u ≤ 9 then UInt8.ofNat (48 + u) :: acc else decF (u / 10) (UInt8.ofNat (48 + u % 10) :: acc)
theorem decF_low {u : Nat} (h : u ≤ 9) (acc : List UInt8) : decF u acc = UInt8.ofNat (48 + u) :: acc := by rw [decF, if_pos h]
theorem decF_step {u : Nat} (h : ¬ u ≤ 9) (acc : List UInt8) : decF u acc = decF (u / 10) (UInt8.ofNat (48 + u % 10) :: acc) := by rw [decF, if_neg h]
theorem decF_dec : ∀ (n u : Nat) (acc : List UInt8), u ≤ n → decF u acc = Lib.decDigits u ++ acc := by
  intro n
  induction n with
  | zero =>
    intro u acc h
    obtain rfl : u = 0 := by omega
    rw [decF_low (by omega), Lib.decDigits]; simp
  | succ n ih =>
    intro u acc h
    by_cases h9 : u ≤ 9
    · rw [decF_low h9, Lib.decDigits, dif_pos (by omega)]; rfl
    · rw [decF_step h9, ih (u / 10) _ (by omega)]
      conv => rhs; rw [Lib.decDigits, dif_neg (by omega)]
      simp

theorem conv_one (W : World) (b : UInt8) (z : Int) (hz : z = b.toNat) : (convert 22 9 (.slice (some ⟨W.heap.size, 0, none⟩) 1 1)).run Tryd.prog (W.alloc (.cells #[.int .u8 z] 5)) = .ok (.string (mkS [b])) (W.alloc (.cells #[.int .u8 z] 5)) := by
  subst hz
  refine run_convert_bytes_back _ 22 9 5 ⟨W.heap.size, 0, none⟩ 1 [b] Tryd.underlying22 Tryd.underlying5 Tryd.underlying9 ?_
  intro j hj
  have : j = 0 := by simp at hj; omega
  subst this
  simp [Addr.add]
theorem byte_of {n : Nat} (h : n < 256) : ((UInt8.ofNat n).toNat : Int) = n := by
  simp only [UInt8.toNat_ofNat', Nat.reducePow]; omega
theorem len_step {u len : Nat} (h : u * 10 ^ len < 10 ^ 20) (hu : 9 < u) : (u / 10) * 10 ^ (len + 1) < 10 ^ 20 ∧ len < 20 := by
  constructor
  · rw [Nat.pow_succ, Nat.mul_comm (10 ^ len) 10, ← Nat.mul_assoc]
    exact Nat.lt_of_le_of_lt (Nat.mul_le_mul_right _ (Nat.div_mul_le_self u 10)) h
  · have h2 : 10 ^ len < 10 ^ 20 := Nat.lt_of_le_of_lt (Nat.le_mul_of_pos_left _ (by omega)) h
    exact (Nat.pow_lt_pow_iff_right (by decide)).1 h2

set_option maxRecDepth 1000000 in
set_option maxHeartbeats 4000000 in
theorem l1Int_pos (k : Nat) (w : World) (hk : k < 10000000000000000) : Calls Tryd.prog 23 #[.int .i64 k] w fun e w' => e = .returned (.string (mkS (Lib.decDigits k))) ∧ Below w.heap.size w w' := by
  have hk0 : ¬ (k : Int) < 0 := by omega
  have hkn : (k : Int) < 10000000000000000 := by omega
  go_enter Tryd.func23, Tryd.ntmps23
  go_wp2
  go_loopw [3, 4] (fun ov kv wr => ∃ (u : Nat) (acc : List UInt8), kv = .int .u64 u ∧ ov = .string (mkS acc) ∧ Hid (decF u acc = decF k []) ∧ u < 10000000000000000 ∧ Hid (u * 10 ^ acc.length < 10 ^ 20) ∧ acc.length ≤ 20 ∧ Below w.heap.size w wr) (fun _ kv _ => (intOf kv).toNat)
  case atStart => exact ⟨k, [], rfl, rfl, rfl, hk, by show _ < _; simp; omega, by simp, Below.refl _ _⟩
  case round =>
    obtain ⟨u, acc, rfl, rfl, hd, hu, hpow, hlen, hb⟩ := hrel
    have hs2 : (mkS acc).size ≤ 20 := by rw [← toList_size, mkS_list]; exact hlen
    by_cases h9 : (9 : Int) < u
    · obtain ⟨hp2, hl2⟩ := len_step hpow.out (by omega)
      have hpH : Hid ((u / 10) * 10 ^ (acc.length + 1) < 10 ^ 20) := hp2
      obtain ⟨b, hbe⟩ : ∃ b, b = UInt8.ofNat (48 + u % 10) := ⟨_, rfl⟩
      have conv := conv_one wr b (48 + (u : Int) % 10) (by rw [hbe, byte_of (n := 48 + u % 10) (by omega)]; omega)
      have hd2 : Hid (decF (u / 10) (b :: acc) = decF k []) := by show _ = _; rw [← hd.out, decF_step (u := u) (by omega), hbe]
      have hs1 : (mkS [b]).size = 1 := rfl
      have happ : Hid (mkS [b] ++ mkS acc = mkS (b :: acc)) := mkS_append [b] acc
      clear hd hpow hp2 hbe
      go_wp2
      go_roundw
      case rel => exact ⟨u / 10, b :: acc, by simp, by rw [happ.out], hd2, by omega, hpH, by simp; omega, hb.alloc hb.size _⟩
      case measure => simp [intOf]; omega
    · obtain ⟨b, hbe⟩ : ∃ b, b = UInt8.ofNat (48 + u) := ⟨_, rfl⟩
      have hub : u ≤ 9 := by omega
      have conv := conv_one wr b (48 + (u : Int)) (by rw [hbe, byte_of (n := 48 + u) (by omega)]; omega)
      have hd2 : Hid (mkS (b :: acc) = mkS (Lib.decDigits k)) := by
        show _ = _
        rw [← List.append_nil (Lib.decDigits k), ← decF_dec k k [] (Nat.le_refl _), ← hd.out, decF_low hub, hbe]
      have hs1 : (mkS [b]).size = 1 := rfl
      have happ : mkS [b] ++ mkS acc = mkS (b :: acc) := mkS_append [b] acc
      have happH : Hid (mkS [b] ++ mkS acc = mkS (b :: acc)) := happ
      clear hd hpow hbe happ hu hk hkn
      go_wp2
      go_ret
      refine ⟨?_, hb.alloc hb.size _⟩
      rw [← hd2.out, ← happH.out]; rfl

set_option maxRecDepth 1000000 in
set_option maxHeartbeats 4000000 in
theorem l1Int_neg (k : Nat) (w : World) (h1 : 1 ≤ k) (hk : k < 10000000000000000) : Calls Tryd.prog 23 #[.int .i64 (-(k : Int))] w fun e w' => e = .returned (.string (mkS (45 :: Lib.decDigits k))) ∧ Below w.heap.size w w' := by
  have hk0 : -(k : Int) < 0 := by omega
  have hw : IntKind.u64.wrap (-IntKind.u64.wrap (-(k : Int))) = k := by
    simp only [IntKind.wrap, IntKind.bits, IntKind.signed]
    simp
    omega
  go_enter Tryd.func23, Tryd.ntmps23
  go_wp2
  clear hw
  go_loopw [3, 4] (fun ov kv wr => ∃ (u : Nat) (acc : List UInt8), kv = .int .u64 u ∧ ov = .string (mkS acc) ∧ Hid (decF u acc = decF k []) ∧ u < 10000000000000000 ∧ Hid (u * 10 ^ acc.length < 10 ^ 20) ∧ acc.length ≤ 20 ∧ Below w.heap.size w wr) (fun _ kv _ => (intOf kv).toNat)
  case atStart => exact ⟨k, [], rfl, rfl, rfl, hk, by show _ < _; simp; omega, by simp, Below.refl _ _⟩
  case round =>
    obtain ⟨u, acc, rfl, rfl, hd, hu, hpow, hlen, hb⟩ := hrel
    have hs2 : (mkS acc).size ≤ 20 := by rw [← toList_size, mkS_list]; exact hlen
    by_cases h9 : (9 : Int) < u
    · obtain ⟨hp2, hl2⟩ := len_step hpow.out (by omega)
      have hpH : Hid ((u / 10) * 10 ^ (acc.length + 1) < 10 ^ 20) := hp2
      obtain ⟨b, hbe⟩ : ∃ b, b = UInt8.ofNat (48 + u % 10) := ⟨_, rfl⟩
      have conv := conv_one wr b (48 + (u : Int) % 10) (by rw [hbe, byte_of (n := 48 + u % 10) (by omega)]; omega)
      have hd2 : Hid (decF (u / 10) (b :: acc) = decF k []) := by show _ = _; rw [← hd.out, decF_step (u := u) (by omega), hbe]
      have hs1 : (mkS [b]).size = 1 := rfl
      have happ : Hid (mkS [b] ++ mkS acc = mkS (b :: acc)) := mkS_append [b] acc
      clear hpow hp2 hbe hd
      go_wp2
      go_roundw
      case rel => exact ⟨u / 10, b :: acc, by simp, by rw [happ.out], hd2, by omega, hpH, by simp; omega, hb.alloc hb.size _⟩
      case measure => simp [intOf]; omega
    · obtain ⟨b, hbe⟩ : ∃ b, b = UInt8.ofNat (48 + u) := ⟨_, rfl⟩
      have hub : u ≤ 9 := by omega
      have conv := conv_one wr b (48 + (u : Int)) (by rw [hbe, byte_of (n := 48 + u) (by omega)]; omega)
      have hs1 : (mkS [b]).size = 1 := rfl
      have happ : mkS [b] ++ mkS acc = mkS (b :: acc) := mkS_append [b] acc
      have hs3 : (mkS (b :: acc)).size ≤ 21 := by rw [← toList_size, mkS_list]; simp; omega
      have hd2 : Hid (mkS (45 :: Lib.decDigits k) = mkS [45] ++ mkS (b :: acc)) := by
        show _ = _
        rw [mkS_append, ← List.append_nil (Lib.decDigits k), ← decF_dec k k [] (Nat.le_refl _), ← hd.out, decF_low hub, hbe]; rfl
      clear hpow hbe hu hk hd
      go_wp2
      go_ret
      refine ⟨?_, hb.alloc hb.size _⟩
      rw [hd2.out]; rfl
end Go.Proofs.YtjbknbinaegpkaaDoor
