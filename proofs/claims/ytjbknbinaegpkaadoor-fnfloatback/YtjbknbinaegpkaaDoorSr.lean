/- spec.l1Int at every number, spec.l1ReadLong and spec.l1ReadInt at texts of at most 40 bytes. -/
import Derived.Test.YtjbknbinaegpkaaDoorGs
namespace Go.Proofs.YtjbknbinaegpkaaDoor
set_option linter.unusedVariables false
open Go.ChangeShapes Go.WideShapes Go.ChangeAt Go.RowKit

theorem u64_in (n : Int) : 0 ≤ IntKind.u64.wrap n ∧ IntKind.u64.wrap n < 18446744073709551616 := by
  have : IntKind.u64.wrap n = n % 18446744073709551616 := by
    simp only [IntKind.wrap, IntKind.bits, IntKind.signed]
    simp
  rw [this]; omega

set_option maxRecDepth 1000000 in
set_option maxHeartbeats 4000000 in
/-- spec.l1Int answers, whatever the number. -/
theorem l1Int_total (n : Int) (w : World) : Calls Tryd.prog 23 #[.int .i64 n] w fun e w' => (∃ s : ByteArray, e = .returned (.string s)) ∧ Below w.heap.size w w' := by
  by_cases hn : n < 0
  · obtain ⟨U, hU⟩ : ∃ U, IntKind.u64.wrap (-IntKind.u64.wrap n) = U := ⟨_, rfl⟩
    have hUb := u64_in (-IntKind.u64.wrap n)
    rw [hU] at hUb
    obtain ⟨hU0, hU1⟩ := hUb
    go_enter Tryd.func23, Tryd.ntmps23
    go_wp2
    clear hU
    go_loopw [3, 4] (fun ov kv wr => ∃ (u : Nat) (acc : List UInt8), kv = .int .u64 u ∧ ov = .string (mkS acc) ∧ u < 18446744073709551616 ∧ Hid (u * 10 ^ acc.length < 10 ^ 20) ∧ acc.length ≤ 20 ∧ Below w.heap.size w wr) (fun _ kv _ => (intOf kv).toNat)
    case atStart => exact ⟨U.toNat, [], by simp; omega, rfl, by omega, by show _ < _; simp; omega, by simp, Below.refl _ _⟩
    case round =>
      obtain ⟨u, acc, rfl, rfl, hu, hpow, hlen, hb⟩ := hrel
      have hs2 : (mkS acc).size ≤ 20 := by rw [← toList_size, mkS_list]; exact hlen
      by_cases h9 : (9 : Int) < u
      · obtain ⟨hp2, hl2⟩ := len_step hpow.out (by omega)
        have hpH : Hid ((u / 10) * 10 ^ (acc.length + 1) < 10 ^ 20) := hp2
        obtain ⟨b, hbe⟩ : ∃ b, b = UInt8.ofNat (48 + u % 10) := ⟨_, rfl⟩
        have conv := conv_one wr b (48 + (u : Int) % 10) (by rw [hbe, byte_of (n := 48 + u % 10) (by omega)]; omega)
        have hs1 : (mkS [b]).size = 1 := rfl
        have happ : Hid (mkS [b] ++ mkS acc = mkS (b :: acc)) := mkS_append [b] acc
        clear hpow hp2 hbe
        go_wp2
        go_roundw
        case rel => exact ⟨u / 10, b :: acc, by simp, by rw [happ.out], by omega, hpH, by simp; omega, hb.alloc hb.size _⟩
        case measure => simp [intOf]; omega
      · obtain ⟨b, hbe⟩ : ∃ b, b = UInt8.ofNat (48 + u) := ⟨_, rfl⟩
        have conv := conv_one wr b (48 + (u : Int)) (by rw [hbe, byte_of (n := 48 + u) (by omega)]; omega)
        have hs1 : (mkS [b]).size = 1 := rfl
        have happ : mkS [b] ++ mkS acc = mkS (b :: acc) := mkS_append [b] acc
        have hs3 : (mkS (b :: acc)).size ≤ 21 := by rw [← toList_size, mkS_list]; simp; omega
        have hub : u ≤ 9 := by omega
        clear hpow hbe hu
        go_wp2
        go_ret
        exact ⟨⟨_, rfl⟩, hb.alloc hb.size _⟩
  · obtain ⟨U, hU⟩ : ∃ U, IntKind.u64.wrap n = U := ⟨_, rfl⟩
    have hUb := u64_in n
    rw [hU] at hUb
    obtain ⟨hU0, hU1⟩ := hUb
    have hn0 : 0 ≤ n := by omega
    go_enter Tryd.func23, Tryd.ntmps23
    go_wp2
    clear hU
    go_loopw [3, 4] (fun ov kv wr => ∃ (u : Nat) (acc : List UInt8), kv = .int .u64 u ∧ ov = .string (mkS acc) ∧ u < 18446744073709551616 ∧ Hid (u * 10 ^ acc.length < 10 ^ 20) ∧ acc.length ≤ 20 ∧ Below w.heap.size w wr) (fun _ kv _ => (intOf kv).toNat)
    case atStart => exact ⟨U.toNat, [], by simp; omega, rfl, by omega, by show _ < _; simp; omega, by simp, Below.refl _ _⟩
    case round =>
      obtain ⟨u, acc, rfl, rfl, hu, hpow, hlen, hb⟩ := hrel
      have hs2 : (mkS acc).size ≤ 20 := by rw [← toList_size, mkS_list]; exact hlen
      by_cases h9 : (9 : Int) < u
      · obtain ⟨hp2, hl2⟩ := len_step hpow.out (by omega)
        have hpH : Hid ((u / 10) * 10 ^ (acc.length + 1) < 10 ^ 20) := hp2
        obtain ⟨b, hbe⟩ : ∃ b, b = UInt8.ofNat (48 + u % 10) := ⟨_, rfl⟩
        have conv := conv_one wr b (48 + (u : Int) % 10) (by rw [hbe, byte_of (n := 48 + u % 10) (by omega)]; omega)
        have hs1 : (mkS [b]).size = 1 := rfl
        have happ : Hid (mkS [b] ++ mkS acc = mkS (b :: acc)) := mkS_append [b] acc
        clear hpow hp2 hbe
        go_wp2
        go_roundw
        case rel => exact ⟨u / 10, b :: acc, by simp, by rw [happ.out], by omega, hpH, by simp; omega, hb.alloc hb.size _⟩
        case measure => simp [intOf]; omega
      · obtain ⟨b, hbe⟩ : ∃ b, b = UInt8.ofNat (48 + u) := ⟨_, rfl⟩
        have conv := conv_one wr b (48 + (u : Int)) (by rw [hbe, byte_of (n := 48 + u) (by omega)]; omega)
        have hs1 : (mkS [b]).size = 1 := rfl
        have happ : mkS [b] ++ mkS acc = mkS (b :: acc) := mkS_append [b] acc
        have hub : u ≤ 9 := by omega
        clear hpow hbe hu
        go_wp2
        go_ret
        exact ⟨⟨_, rfl⟩, hb.alloc hb.size _⟩
end Go.Proofs.YtjbknbinaegpkaaDoor
