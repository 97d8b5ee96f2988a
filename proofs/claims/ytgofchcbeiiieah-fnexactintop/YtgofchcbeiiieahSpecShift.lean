/- spec.IntOp at the three shifts: its loops, told by plain functions. -/
import Derived.Test.YtgofchcbeiiieahWrap
import Derived.LoopTactic
import Derived.Below
namespace Go.Proofs.Ytgofchcbeiiieah
open Go.ChangeShapes Go.WideShapes Go.ChangeAt Go.RowKit

def halves (u : Int) : Nat → Int
  | 0 => u
  | k + 1 => wrap64 ((halves u k).tdiv 2)
def doubles (a : Int) : Nat → Int
  | 0 => a
  | k + 1 => wrap32 (wrap64 (doubles a k * 2))
def floors (a : Int) : Nat → Int
  | 0 => a
  | k + 1 => floors a k / 2

theorem specInt19 (a b : Int) (w : World) :
    Calls Try.prog 9 #[.int .i64 19, .int .i64 a, .int .i64 b] w fun e w' => e = .returned (.tuple #[.int .i64 (wrap32 (halves (wrap32 a % 4294967296) (wrap32 b % 32).toNat)), .bool true]) ∧ w' = w := by
  have ha := and32 (wrap32 a)
  have hb := and31 (wrap32 b)
  have hn : ((wrap32 b % 32).toNat : Int) = wrap32 b % 32 := by omega
  have hl : (wrap32 b % 32).toNat < 32 := by omega
  generalize hN : (wrap32 b % 32).toNat = n at hn hl ⊢
  rw [← hn] at hb
  clear hN hn
  go_enter Try.func9, Try.ntmps9
  go_wp2_with (first | (go_at_call 7; refine (specWrap _ _).mono ?_; rintro e w' ⟨rfl, he⟩; subst he))
  go_loop [8, 9] (fun u i => ∃ k j : Nat, k + j = n ∧ i = .int .i64 j ∧ u = .int .i64 (halves (wrap32 a % 4294967296) k)) (fun _ i => (intOf i).toNat)
  case atStart => exact ⟨0, n, by omega, rfl, rfl⟩
  case round =>
    obtain ⟨k, j, hk, rfl, rfl⟩ := hrel
    go_wp2_with (first | (go_at_call 7; refine (specWrap _ _).mono ?_; rintro e w' ⟨rfl, he⟩; subst he))
    · go_round
      case rel => exact ⟨k + 1, j - 1, by omega, by go_num, rfl⟩
      case measure => simp [intOf]; omega
    · have : k = n := by omega
      subst this
      go_ret2
      exact ⟨rfl, rfl⟩

theorem specInt17 (a b : Int) (w : World) :
    Calls Try.prog 9 #[.int .i64 17, .int .i64 a, .int .i64 b] w fun e w' => e = .returned (.tuple #[.int .i64 (doubles (wrap32 a) (wrap32 b % 32).toNat), .bool true]) ∧ w' = w := by
  have hb := and31 (wrap32 b)
  have hn : ((wrap32 b % 32).toNat : Int) = wrap32 b % 32 := by omega
  have hl : (wrap32 b % 32).toNat < 32 := by omega
  generalize hN : (wrap32 b % 32).toNat = n at hn hl ⊢
  rw [← hn] at hb
  clear hN hn
  go_enter Try.func9, Try.ntmps9
  go_wp2_with (first | (go_at_call 7; refine (specWrap _ _).mono ?_; rintro e w' ⟨rfl, he⟩; subst he))
  go_loop [1, 10] (fun u i => ∃ k j : Nat, k + j = n ∧ i = .int .i64 j ∧ u = .int .i64 (doubles (wrap32 a) k)) (fun _ i => (intOf i).toNat)
  case atStart => exact ⟨0, n, by omega, rfl, rfl⟩
  case round =>
    obtain ⟨k, j, hk, rfl, rfl⟩ := hrel
    go_wp2_with (first | (go_at_call 7; refine (specWrap _ _).mono ?_; rintro e w' ⟨rfl, he⟩; subst he))
    · go_round
      case rel => exact ⟨k + 1, j - 1, by omega, by go_num, rfl⟩
      case measure => simp [intOf]; omega
    · have : k = n := by omega
      subst this
      go_ret2
      exact ⟨rfl, rfl⟩

theorem specInt18 (a b : Int) (w : World) :
    Calls Try.prog 9 #[.int .i64 18, .int .i64 a, .int .i64 b] w fun e w' => e = .returned (.tuple #[.int .i64 (floors (wrap32 a) (wrap32 b % 32).toNat), .bool true]) ∧ w' = w := by
  have hb := and31 (wrap32 b)
  have hn : ((wrap32 b % 32).toNat : Int) = wrap32 b % 32 := by omega
  have hl : (wrap32 b % 32).toNat < 32 := by omega
  generalize hN : (wrap32 b % 32).toNat = n at hn hl ⊢
  rw [← hn] at hb
  clear hN hn
  go_enter Try.func9, Try.ntmps9
  go_wp2_with (first | (go_at_call 7; refine (specWrap _ _).mono ?_; rintro e w' ⟨rfl, he⟩; subst he))
  go_loop [1, 10] (fun u i => ∃ k j : Nat, k + j = n ∧ i = .int .i64 j ∧ u = .int .i64 (floors (wrap32 a) k)) (fun _ i => (intOf i).toNat)
  case atStart => exact ⟨0, n, by omega, rfl, rfl⟩
  case round =>
    obtain ⟨k, j, hk, rfl, rfl⟩ := hrel
    go_wp2_with (first | (go_at_call 7; refine (specWrap _ _).mono ?_; rintro e w' ⟨rfl, he⟩; subst he))
    · go_round
      case rel => exact ⟨k + 1, j - 1, by omega, by go_num, rfl⟩
      case measure => simp [intOf]; omega
    · have : k = n := by omega
      subst this
      go_ret2
      exact ⟨rfl, rfl⟩
end Go.Proofs.Ytgofchcbeiiieah
