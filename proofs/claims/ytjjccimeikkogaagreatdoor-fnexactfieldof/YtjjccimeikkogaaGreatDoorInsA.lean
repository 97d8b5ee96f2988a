import Derived.Test.YtjjccimeikkogaaGreatDoorShelf
import Derived.Deep.QuietTactic
import Derived.BigQuiet
set_option maxRecDepth 1000000
set_option maxHeartbeats 4000000
namespace Go.Proofs.YtjjccimeikkogaaGreatDoor
set_option linter.unusedVariables false
open Go.ChangeShapes Go.WideShapes Go.ChangeAt Go.RowKit
def betw (n lo hi : Int) : Bool := decide (lo ≤ n) && decide (n ≤ hi)
def wthn (n m : Int) : Bool := decide (0 ≤ n) && decide (n < m)
theorem between_calls (n lo hi : Int) (w : World) : Calls Tryz.prog 181 #[.int .i64 n, .int .i64 lo, .int .i64 hi] w fun e w' => e = .returned (.bool (betw n lo hi)) ∧ w' = w := by
 unfold betw
 go_enter Tryz.func181, Tryz.ntmps181
 go_wp2
 all_goals (go_ret; refine ⟨?_, rfl⟩; first | (simp_all; done) | (simp_all; intro _; omega))
theorem l2Between_calls (n lo hi : Int) (w : World) : Calls Tryz.prog 174 #[.int .i64 n, .int .i64 lo, .int .i64 hi] w fun e w' => e = .returned (.bool (betw n lo hi)) ∧ w' = w := by
 unfold betw
 go_enter Tryz.func174, Tryz.ntmps174
 go_wp2
 all_goals (go_ret; refine ⟨?_, rfl⟩; first | (simp_all; done) | (simp_all; intro _; omega))
theorem within_calls (n m : Int) (w : World) : Calls Tryz.prog 216 #[.int .i64 n, .int .i64 m] w fun e w' => e = .returned (.bool (wthn n m)) ∧ w' = w := by
 unfold wthn
 go_enter Tryz.func216, Tryz.ntmps216
 go_wp2
 all_goals (go_ret; refine ⟨?_, rfl⟩; first | (simp_all; done) | (simp_all; intro _; omega))
def partsI (o : Int) : Int :=
 if o = 30 then 134 else if o = 6 ∨ (26 ≤ o ∧ o ≤ 29) then 6 else if o = 25 then 2 else if o = 1 ∨ o = 24 ∨ o = 4 ∨ o = 5 then 3
 else if (11 ≤ o ∧ o ≤ 22) ∨ o = 37 ∨ o = 38 ∨ o = 44 then 1 else if o = 23 then 5 else if o = 2 then 8 else if 31 ≤ o ∧ o ≤ 33 then 116
 else if o = 35 ∨ o = 39 ∨ o = 40 then 64 else if o = 34 then 16 else 0
theorem partsOf_calls (o : Int) (w : World) : Calls Tryz.prog 214 #[.int .i64 o] w fun e w' => e = .returned (.int .i64 (partsI o)) ∧ w' = w := by
 obtain ⟨r, hr⟩ : ∃ r, partsI o = r := ⟨_, rfl⟩
 rw [hr]
 have hrH : Hid (partsI o = r) := hr
 clear hr
 go_enter Tryz.func214, Tryz.ntmps214
 go_wp2
 all_goals (
  go_ret
  refine ⟨?_, rfl⟩
  go_light
  rw [← hrH.out]
  first
   | (rename_i h; have e := eq_of_beq h; subst e; rfl)
   | (simp only [beq_eq_false_iff_ne, ne_eq] at *
      unfold partsI
      rw [if_neg (by omega), if_neg (by omega), if_neg (by omega), if_neg (by omega), if_neg (by omega), if_neg (by omega), if_neg (by omega), if_neg (by omega), if_neg (by omega), if_neg (by omega)]
      rfl))
def nn (p part : Int) (em : Bool) : Bool := em || (bits .and .i64 p part != 0)
theorem none_calls (part : Int) (em : Bool) (p : Int) (b : Nat) (w : World) (hc : w.cell? ⟨b, 0, none⟩ = some (.int .i64 p)) :
  Calls Tryz.prog 236 #[.int .i64 part, .bool em, .pointer (some ⟨b, 0, none⟩)] w fun e w' => e = .returned (.bool (nn p part em)) ∧ w' = w := by
 cases em
 all_goals (
  go_enter Tryz.func236, Tryz.ntmps236
  go_wp2
  all_goals (go_ret; refine ⟨?_, rfl⟩; first | rfl | (simp [nn]; done)))
abbrev insV (o k a b : Int) (T C N Y : ByteArray) (tab : Value) : Value := .agg #[.int .i64 o, .int .i64 k, .int .i64 a, .int .i64 b, .string T, .string C, .string N, .string Y, tab]
def noneB (p k a b : Int) (T C N Y : ByteArray) (n : Int) : Bool :=
 nn p 1 (k == 0) && nn p 2 (a == 0) && nn p 4 (b == 0) && nn p 8 (T.toList == []) && nn p 16 (C.toList == []) && nn p 32 (N.toList == []) && nn p 64 (Y.toList == []) && nn p 128 (n == 0)
theorem noneBeside_calls (o k a b p : Int) (T C N Y : ByteArray) (ta : Option Addr) (n c : Nat) (w : World) :
  Calls Tryz.prog 213 #[insV o k a b T C N Y (.slice ta n c), .int .i64 p] w fun e w' => e = .returned (.bool (noneB p k a b T C N Y n)) ∧ Below w.heap.size w w' := by
 have hmf : ∀ (fn : Fn) (first cap : Array Value) (w : World), (Instr.makeFunc fn first cap).run Tryz.prog w = .ok (.func fn first cap) w := fun _ _ _ _ => rfl
 go_enter Tryz.func213, Tryz.ntmps213
 go_wp2_with (go_at_call 236; refine (none_calls _ _ p (w.heap.size + 1) _ (by simp)).mono ?_; rintro e w' ⟨rfl, he⟩; subst he)
 all_goals go_ret
 all_goals (refine ⟨?_, ((Below.refl _ _).alloc (Nat.le_refl _) _).alloc (by simp) _⟩)
 all_goals (go_light; simp_all [noneB])
def Tab (w : World) (v : Value) (zs : List Int) : Prop :=
 (v = .slice none 0 0 ∧ zs = []) ∨ ∃ g c, v = .slice (some ⟨g, 0, none⟩) zs.length c ∧ g < w.heap.size ∧ ∀ j (h : j < zs.length), w.cell? ⟨g, j, none⟩ = some (.int .i64 zs[j])
theorem Tab.kept {w w' : World} {v : Value} {zs : List Int} (h : Tab w v zs) (hb : Below w.heap.size w w') : Tab w' v zs := by
 rcases h with h | ⟨g, c, hv, hg, hc⟩
 ·exact .inl h
 ·exact .inr ⟨g, c, hv, Nat.lt_of_lt_of_le hg hb.size, fun j hj => by rw [hb.cell (p := ⟨g, j, none⟩) hg]; exact hc j hj⟩
theorem Tab.form {w : World} {v : Value} {zs : List Int} (h : Tab w v zs) : ∃ a c, v = .slice a zs.length c := by
 rcases h with ⟨rfl, rfl⟩ | ⟨g, c, hv, _⟩
 ·exact ⟨_, _, rfl⟩
 ·exact ⟨_, _, hv⟩
theorem outside_calls (t size : Int) (b : Nat) (w : World) (hc : w.cell? ⟨b, 0, none⟩ = some (.int .i64 size)) :
  Calls Tryz.prog 254 #[.int .i64 t, .pointer (some ⟨b, 0, none⟩)] w fun e w' => e = .returned (.bool (!wthn t size)) ∧ w' = w := by
 have h : Hid (∀ w, Calls Tryz.prog 216 #[.int .i64 t, .int .i64 size] w fun e w' => e = .returned (.bool (wthn t size)) ∧ w' = w) := fun w => within_calls t size w
 generalize wthn t size = x at *
 go_enter Tryz.func254, Tryz.ntmps254
 go_wp2_with (go_at_call 216; refine (h.out _).mono ?_; rintro e w' ⟨rfl, he⟩; subst he)
 go_ret
 exact ⟨rfl, rfl⟩
theorem any_take {p : Int → Bool} {l : List Int} {k : Nat} (hk : k < l.length) (h : (l.take k).any p = false) (h2 : p l[k] = false) : (l.take (k + 1)).any p = false := by
 rw [List.take_succ_eq_append_getElem hk, List.any_append, h]; simp [h2]
theorem any_at {p : Int → Bool} {l : List Int} {k : Nat} (hk : k < l.length) (h2 : p l[k] = true) : l.any p = true :=
 List.any_eq_true.2 ⟨l[k], List.getElem_mem hk, h2⟩
theorem indexFunc_calls (v : Value) (zs : List Int) (size : Int) (b : Nat) (w : World) (hc : w.cell? ⟨b, 0, none⟩ = some (.int .i64 size)) (ht : Tab w v zs) (hz : zs.length ≤ 1048576) :
  Calls Tryz.prog 265 #[v, .func (.func 254) #[] #[.pointer (some ⟨b, 0, none⟩)]] w fun e w' => (∃ r, e = .returned (.int .i64 r) ∧ decide (0 ≤ r) = zs.any fun z => !wthn z size) ∧ w' = w := by
 obtain ⟨a, c, rfl⟩ := ht.form
 have outH : Hid (∀ t, Calls Tryz.prog 254 #[.int .i64 t, .pointer (some ⟨b, 0, none⟩)] w fun e w' => e = .returned (.bool (!wthn t size)) ∧ w' = w) := fun t => outside_calls t size b w hc
 have cellH : Hid (∀ k (h : k < zs.length), ∃ g, a = some ⟨g, 0, none⟩ ∧ w.cell? ⟨g, k, none⟩ = some (.int .i64 zs[k])) := by
  intro k hk
  rcases ht with ⟨_, rfl⟩ | ⟨g, c', hv, _, hcell⟩
  ·simp at hk
  ·injection hv with h1
   exact ⟨g, h1, hcell k hk⟩
 clear ht hc
 obtain ⟨p, hp⟩ : ∃ p : Int → Bool, p = fun z => !wthn z size := ⟨_, rfl⟩
 rw [← hp]
 have hpH : Hid (p = fun z => !wthn z size) := hp
 clear hp
 go_enter Tryz.func265, Tryz.ntmps265
 go_wp2
 go_loop [8] (fun i => ∃ k : Nat, k ≤ zs.length ∧ i = .int .i64 k ∧ Hid ((zs.take k).any p = false)) (fun i => zs.length - (intOf i).toNat)
 case atStart => exact ⟨0, Nat.zero_le _, rfl, rfl⟩
 case round =>
  obtain ⟨k, hk, rfl, hall⟩ := hrel
  by_cases hlt : k < zs.length
  ·obtain ⟨g, rfl, hcell⟩ := cellH.out k hlt
   obtain ⟨z, hz⟩ : ∃ z, z = zs[k] := ⟨_, rfl⟩
   rw [← hz] at hcell
   have hpz : Hid (p zs[k] = !wthn z size) := by show _ = _; rw [hpH.out, hz]
   have oH : Hid (Calls Tryz.prog 254 #[.int .i64 z, .pointer (some ⟨b, 0, none⟩)] w fun e w' => e = .returned (.bool (!wthn z size)) ∧ w' = w) := outH.out z
   clear hz
   generalize wthn z size = x at *
   cases x
   ·go_wp2_with (go_at_call 254; refine oH.out.mono ?_; rintro e w' ⟨rfl, he⟩; subst he)
    go_ret
    exact ⟨⟨_, rfl, by rw [any_at hlt (by rw [hpz.out]; rfl)]; simp⟩, rfl⟩
   ·go_wp2_with (go_at_call 254; refine oH.out.mono ?_; rintro e w' ⟨rfl, he⟩; subst he)
    go_round
    case rel => exact ⟨k + 1, by omega, by go_num, any_take hlt hall.out (by rw [hpz.out]; rfl)⟩
    case measure => simp [intOf]; omega
  ·go_wp2
   go_ret
   exact ⟨⟨_, rfl, by have := hall.out; rw [List.take_of_length_le (by omega)] at this; rw [this]; rfl⟩, rfl⟩
theorem contains_calls (v : Value) (zs : List Int) (size : Int) (b : Nat) (w : World) (hc : w.cell? ⟨b, 0, none⟩ = some (.int .i64 size)) (ht : Tab w v zs) (hz : zs.length ≤ 1048576) :
  Calls Tryz.prog 255 #[v, .func (.func 254) #[] #[.pointer (some ⟨b, 0, none⟩)]] w fun e w' => e = .returned (.bool (zs.any fun z => !wthn z size)) ∧ w' = w := by
 have h : Hid (Calls Tryz.prog 265 #[v, .func (.func 254) #[] #[.pointer (some ⟨b, 0, none⟩)]] w fun e w' => (∃ r, e = .returned (.int .i64 r) ∧ decide (0 ≤ r) = zs.any fun z => !wthn z size) ∧ w' = w) := indexFunc_calls v zs size b w hc ht hz
 clear hc ht
 go_enter Tryz.func255, Tryz.ntmps255
 go_wp2_with (go_at_call 265; refine h.out.mono ?_; rintro e w' ⟨⟨r, rfl, hr⟩, he⟩; subst he)
 go_ret
 exact ⟨by rw [← hr]; rfl, rfl⟩
theorem wrap64_32 (n : Int) : wrap64 (wrap32 n) = wrap32 n := by unfold wrap64 wrap32; omega
theorem implWrap_calls (n : Int) (w : World) : Calls Tryz.prog 248 #[.int .i64 n] w fun e w' => e = .returned (.int .i64 (wrap32 n)) ∧ w' = w := by
 go_enter Tryz.func248, Tryz.ntmps248
 go_wp2
 go_ret
 exact ⟨by simp [wrap64_32], rfl⟩
end Go.Proofs.YtjjccimeikkogaaGreatDoor
