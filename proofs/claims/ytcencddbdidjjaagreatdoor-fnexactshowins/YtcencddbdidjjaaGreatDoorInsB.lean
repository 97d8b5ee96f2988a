/- impl.noneBeside: nothing stands in a field that the op does not name. -/
import Derived.Test.YtcencddbdidjjaaGreatDoorInsA
import Derived.Deep.QuietTactic
import Derived.BigQuiet
namespace Go.Proofs.YtcencddbdidjjaaGreatDoor
set_option linter.unusedVariables false
open Go.ChangeShapes Go.WideShapes Go.ChangeAt Go.RowKit

def nn (p part : Int) (em : Bool) : Bool := em || (bits .and .i64 p part != 0)
theorem none_calls (part : Int) (em : Bool) (p : Int) (b : Nat) (w : World) (hc : w.cell? ⟨b, 0, none⟩ = some (.int .i64 p)) :
    Calls Tryz.prog 55 #[.int .i64 part, .bool em, .pointer (some ⟨b, 0, none⟩)] w fun e w' => e = .returned (.bool (nn p part em)) ∧ w' = w := by
  cases em
  all_goals (
    go_enter Tryz.func55, Tryz.ntmps55
    go_wp2
    all_goals (go_ret; refine ⟨?_, rfl⟩; first | rfl | (simp [nn]; done)))

/-- The nine cells of an instruction. -/
abbrev insV (o k a b : Int) (T C N Y : ByteArray) (tab : Value) : Value := .agg #[.int .i64 o, .int .i64 k, .int .i64 a, .int .i64 b, .string T, .string C, .string N, .string Y, tab]
def noneB (p k a b : Int) (T C N Y : ByteArray) (n : Int) : Bool :=
  nn p 1 (k == 0) && nn p 2 (a == 0) && nn p 4 (b == 0) && nn p 8 (T.toList == []) && nn p 16 (C.toList == []) && nn p 32 (N.toList == []) && nn p 64 (Y.toList == []) && nn p 128 (n == 0)

set_option maxRecDepth 1000000 in
set_option maxHeartbeats 4000000 in
theorem noneBeside_calls (o k a b p : Int) (T C N Y : ByteArray) (ta : Option Addr) (n c : Nat) (w : World) :
    Calls Tryz.prog 37 #[insV o k a b T C N Y (.slice ta n c), .int .i64 p] w fun e w' => e = .returned (.bool (noneB p k a b T C N Y n)) ∧ Below w.heap.size w w' := by
  have hmf : ∀ (fn : Fn) (first cap : Array Value) (w : World), (Instr.makeFunc fn first cap).run Tryz.prog w = .ok (.func fn first cap) w := fun _ _ _ _ => rfl
  go_enter Tryz.func37, Tryz.ntmps37
  go_wp2_with (go_at_call 55; refine (none_calls _ _ p (w.heap.size + 1) _ (by simp)).mono ?_; rintro e w' ⟨rfl, he⟩; subst he)
  all_goals go_ret
  all_goals (refine ⟨?_, ((Below.refl _ _).alloc (Nat.le_refl _) _).alloc (by simp) _⟩)
  all_goals (go_light; simp_all [noneB])
end Go.Proofs.YtcencddbdidjjaaGreatDoor

/- impl.jumpOk: what a jump has besides its first target. -/
namespace Go.Proofs.YtcencddbdidjjaaGreatDoor
set_option linter.unusedVariables false
open Go.ChangeShapes Go.WideShapes Go.ChangeAt Go.RowKit

/-- A slice of numbers that lies in memory. -/
def Tab (w : World) (v : Value) (zs : List Int) : Prop :=
  (v = .slice none 0 0 ∧ zs = []) ∨ ∃ g c, v = .slice (some ⟨g, 0, none⟩) zs.length c ∧ g < w.heap.size ∧ ∀ j (h : j < zs.length), w.cell? ⟨g, j, none⟩ = some (.int .i64 zs[j])
theorem Tab.kept {w w' : World} {v : Value} {zs : List Int} (h : Tab w v zs) (hb : Below w.heap.size w w') : Tab w' v zs := by
  rcases h with h | ⟨g, c, hv, hg, hc⟩
  · exact .inl h
  · exact .inr ⟨g, c, hv, Nat.lt_of_lt_of_le hg hb.size, fun j hj => by rw [hb.cell (p := ⟨g, j, none⟩) hg]; exact hc j hj⟩
theorem Tab.form {w : World} {v : Value} {zs : List Int} (h : Tab w v zs) : ∃ a c, v = .slice a zs.length c := by
  rcases h with ⟨rfl, rfl⟩ | ⟨g, c, hv, _⟩
  · exact ⟨_, _, rfl⟩
  · exact ⟨_, _, hv⟩

theorem outside_calls (t size : Int) (b : Nat) (w : World) (hc : w.cell? ⟨b, 0, none⟩ = some (.int .i64 size)) :
    Calls Tryz.prog 86 #[.int .i64 t, .pointer (some ⟨b, 0, none⟩)] w fun e w' => e = .returned (.bool (!wthn t size)) ∧ w' = w := by
  have h : Hid (∀ w, Calls Tryz.prog 57 #[.int .i64 t, .int .i64 size] w fun e w' => e = .returned (.bool (wthn t size)) ∧ w' = w) := fun w => within_calls t size w
  generalize wthn t size = x at *
  go_enter Tryz.func86, Tryz.ntmps86
  go_wp2_with (go_at_call 57; refine (h.out _).mono ?_; rintro e w' ⟨rfl, he⟩; subst he)
  go_ret
  exact ⟨rfl, rfl⟩

theorem any_take {p : Int → Bool} {l : List Int} {k : Nat} (hk : k < l.length) (h : (l.take k).any p = false) (h2 : p l[k] = false) : (l.take (k + 1)).any p = false := by
  rw [List.take_succ_eq_append_getElem hk, List.any_append, h]; simp [h2]
theorem any_at {p : Int → Bool} {l : List Int} {k : Nat} (hk : k < l.length) (h2 : p l[k] = true) : l.any p = true :=
  List.any_eq_true.2 ⟨l[k], List.getElem_mem hk, h2⟩

set_option maxRecDepth 1000000 in
set_option maxHeartbeats 1000000 in
theorem indexFunc_calls (v : Value) (zs : List Int) (size : Int) (b : Nat) (w : World) (hc : w.cell? ⟨b, 0, none⟩ = some (.int .i64 size)) (ht : Tab w v zs) (hz : zs.length ≤ 1048576) :
    Calls Tryz.prog 103 #[v, .func (.func 86) #[] #[.pointer (some ⟨b, 0, none⟩)]] w fun e w' => (∃ r, e = .returned (.int .i64 r) ∧ decide (0 ≤ r) = zs.any fun z => !wthn z size) ∧ w' = w := by
  obtain ⟨a, c, rfl⟩ := ht.form
  have outH : Hid (∀ t, Calls Tryz.prog 86 #[.int .i64 t, .pointer (some ⟨b, 0, none⟩)] w fun e w' => e = .returned (.bool (!wthn t size)) ∧ w' = w) := fun t => outside_calls t size b w hc
  have cellH : Hid (∀ k (h : k < zs.length), ∃ g, a = some ⟨g, 0, none⟩ ∧ w.cell? ⟨g, k, none⟩ = some (.int .i64 zs[k])) := by
    intro k hk
    rcases ht with ⟨_, rfl⟩ | ⟨g, c', hv, _, hcell⟩
    · simp at hk
    · injection hv with h1
      exact ⟨g, h1, hcell k hk⟩
  clear ht hc
  obtain ⟨p, hp⟩ : ∃ p : Int → Bool, p = fun z => !wthn z size := ⟨_, rfl⟩
  rw [← hp]
  have hpH : Hid (p = fun z => !wthn z size) := hp
  clear hp
  go_enter Tryz.func103, Tryz.ntmps103
  go_wp2
  go_loop [8] (fun i => ∃ k : Nat, k ≤ zs.length ∧ i = .int .i64 k ∧ Hid ((zs.take k).any p = false)) (fun i => zs.length - (intOf i).toNat)
  case atStart => exact ⟨0, Nat.zero_le _, rfl, rfl⟩
  case round =>
    obtain ⟨k, hk, rfl, hall⟩ := hrel
    by_cases hlt : k < zs.length
    · obtain ⟨g, rfl, hcell⟩ := cellH.out k hlt
      obtain ⟨z, hz⟩ : ∃ z, z = zs[k] := ⟨_, rfl⟩
      rw [← hz] at hcell
      have hpz : Hid (p zs[k] = !wthn z size) := by show _ = _; rw [hpH.out, hz]
      have oH : Hid (Calls Tryz.prog 86 #[.int .i64 z, .pointer (some ⟨b, 0, none⟩)] w fun e w' => e = .returned (.bool (!wthn z size)) ∧ w' = w) := outH.out z
      clear hz
      generalize wthn z size = x at *
      cases x
      · go_wp2_with (go_at_call 86; refine oH.out.mono ?_; rintro e w' ⟨rfl, he⟩; subst he)
        go_ret
        exact ⟨⟨_, rfl, by rw [any_at hlt (by rw [hpz.out]; rfl)]; simp⟩, rfl⟩
      · go_wp2_with (go_at_call 86; refine oH.out.mono ?_; rintro e w' ⟨rfl, he⟩; subst he)
        go_round
        case rel => exact ⟨k + 1, by omega, by go_num, any_take hlt hall.out (by rw [hpz.out]; rfl)⟩
        case measure => simp [intOf]; omega
    · go_wp2
      go_ret
      exact ⟨⟨_, rfl, by have := hall.out; rw [List.take_of_length_le (by omega)] at this; rw [this]; rfl⟩, rfl⟩

theorem contains_calls (v : Value) (zs : List Int) (size : Int) (b : Nat) (w : World) (hc : w.cell? ⟨b, 0, none⟩ = some (.int .i64 size)) (ht : Tab w v zs) (hz : zs.length ≤ 1048576) :
    Calls Tryz.prog 87 #[v, .func (.func 86) #[] #[.pointer (some ⟨b, 0, none⟩)]] w fun e w' => e = .returned (.bool (zs.any fun z => !wthn z size)) ∧ w' = w := by
  have h : Hid (Calls Tryz.prog 103 #[v, .func (.func 86) #[] #[.pointer (some ⟨b, 0, none⟩)]] w fun e w' => (∃ r, e = .returned (.int .i64 r) ∧ decide (0 ≤ r) = zs.any fun z => !wthn z size) ∧ w' = w) := indexFunc_calls v zs size b w hc ht hz
  clear hc ht
  go_enter Tryz.func87, Tryz.ntmps87
  go_wp2_with (go_at_call 103; refine h.out.mono ?_; rintro e w' ⟨⟨r, rfl, hr⟩, he⟩; subst he)
  go_ret
  exact ⟨by rw [← hr]; rfl, rfl⟩

theorem wrap64_32 (n : Int) : wrap64 (wrap32 n) = wrap32 n := by unfold wrap64 wrap32; omega
theorem implWrap_calls (n : Int) (w : World) : Calls Tryz.prog 80 #[.int .i64 n] w fun e w' => e = .returned (.int .i64 (wrap32 n)) ∧ w' = w := by
  go_enter Tryz.func80, Tryz.ntmps80
  go_wp2
  go_ret
  exact ⟨by simp [wrap64_32], rfl⟩
end Go.Proofs.YtcencddbdidjjaaGreatDoor
