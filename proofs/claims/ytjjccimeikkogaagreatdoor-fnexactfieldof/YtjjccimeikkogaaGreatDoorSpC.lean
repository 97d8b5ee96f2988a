import Derived.Test.YtjjccimeikkogaaGreatDoorInsG
import Derived.Laws.OwnMore
import Derived.Laws.AppendOwnNone
import Derived.LoopN
import Derived.Deep.RegionHeld3
set_option maxRecDepth 1000000
set_option maxHeartbeats 2000000
namespace Go.Proofs.YtjjccimeikkogaaGreatDoor
set_option linter.unusedVariables false
open Go.ChangeShapes Go.WideShapes Go.ChangeAt Go.RowKit
def keptB (o k a b : Int) (T C N Y : ByteArray) (zs : List Int) : Bool :=
 if o = 1 ∨ o = 24 ∨ o = 4 ∨ o = 5 then sameB o k a b o k a 0 T C N Y ⟨#[]⟩ ⟨#[]⟩ ⟨#[]⟩ ⟨#[]⟩ zs []
 else if o = 2 then sameB o k a b o 0 0 0 T C N Y T ⟨#[]⟩ ⟨#[]⟩ ⟨#[]⟩ zs []
 else if o = 6 ∨ (26 ≤ o ∧ o ≤ 29) then sameB o k a b o 0 a b T C N Y ⟨#[]⟩ ⟨#[]⟩ ⟨#[]⟩ ⟨#[]⟩ zs []
 else if o = 25 then sameB o k a b o 0 a 0 T C N Y ⟨#[]⟩ ⟨#[]⟩ ⟨#[]⟩ ⟨#[]⟩ zs []
 else if o = 23 ∧ k = 3 then sameB o k a b o k 0 b T C N Y ⟨#[]⟩ ⟨#[]⟩ ⟨#[]⟩ ⟨#[]⟩ zs []
 else if o = 23 then sameB o k a b o k 0 0 T C N Y ⟨#[]⟩ ⟨#[]⟩ ⟨#[]⟩ ⟨#[]⟩ zs []
 else if o = 30 then sameB o k a b o 0 a b T C N Y ⟨#[]⟩ ⟨#[]⟩ ⟨#[]⟩ ⟨#[]⟩ zs zs
 else if 31 ≤ o ∧ o ≤ 33 then sameB o k a b o 0 0 b T C N Y ⟨#[]⟩ C N Y zs []
 else if o = 34 then sameB o k a b o 0 0 0 T C N Y ⟨#[]⟩ C ⟨#[]⟩ ⟨#[]⟩ zs []
 else if o = 35 ∨ o = 39 ∨ o = 40 then sameB o k a b o 0 0 0 T C N Y ⟨#[]⟩ ⟨#[]⟩ ⟨#[]⟩ Y zs []
 else if (o = 37 ∨ o = 38 ∨ o = 44) ∨ (11 ≤ o ∧ o ≤ 22) then sameB o k a b o k 0 0 T C N Y ⟨#[]⟩ ⟨#[]⟩ ⟨#[]⟩ ⟨#[]⟩ zs []
 else sameB o k a b o 0 0 0 T C N Y ⟨#[]⟩ ⟨#[]⟩ ⟨#[]⟩ ⟨#[]⟩ zs []
theorem Tab.nil (w : World) : Tab w (.slice none 0 0) [] := .inl ⟨rfl, rfl⟩
theorem sameOnly_calls (o k a b : Int) (T C N Y : ByteArray) (v : Value) (zs : List Int) (w : World) (ht : Tab w v zs) (hz : zs.length ≤ 1048576) :
  Calls Tryz.prog 202 #[insV o k a b T C N Y v, onlyV o k a b T C N Y v] w fun e w' => e = .returned (.bool (keptB o k a b T C N Y zs)) ∧ Below w.heap.size w w' := by
 unfold onlyV keptB
 by_cases h1 : o = 1 ∨ o = 24 ∨ o = 4 ∨ o = 5
 ·rw [if_pos h1, if_pos h1]; exact sameIns_calls _ _ _ _ _ _ _ _ _ _ _ _ _ _ _ _ _ _ _ _ w ht (Tab.nil w) hz (by simp)
 rw [if_neg h1, if_neg h1]
 by_cases h2 : o = 2
 ·rw [if_pos h2, if_pos h2]; exact sameIns_calls _ _ _ _ _ _ _ _ _ _ _ _ _ _ _ _ _ _ _ _ w ht (Tab.nil w) hz (by simp)
 rw [if_neg h2, if_neg h2]
 by_cases h3 : o = 6 ∨ (26 ≤ o ∧ o ≤ 29)
 ·rw [if_pos h3, if_pos h3]; exact sameIns_calls _ _ _ _ _ _ _ _ _ _ _ _ _ _ _ _ _ _ _ _ w ht (Tab.nil w) hz (by simp)
 rw [if_neg h3, if_neg h3]
 by_cases h4 : o = 25
 ·rw [if_pos h4, if_pos h4]; exact sameIns_calls _ _ _ _ _ _ _ _ _ _ _ _ _ _ _ _ _ _ _ _ w ht (Tab.nil w) hz (by simp)
 rw [if_neg h4, if_neg h4]
 by_cases h5 : o = 23 ∧ k = 3
 ·rw [if_pos h5, if_pos h5]; exact sameIns_calls _ _ _ _ _ _ _ _ _ _ _ _ _ _ _ _ _ _ _ _ w ht (Tab.nil w) hz (by simp)
 rw [if_neg h5, if_neg h5]
 by_cases h6 : o = 23
 ·rw [if_pos h6, if_pos h6]; exact sameIns_calls _ _ _ _ _ _ _ _ _ _ _ _ _ _ _ _ _ _ _ _ w ht (Tab.nil w) hz (by simp)
 rw [if_neg h6, if_neg h6]
 by_cases h7 : o = 30
 ·rw [if_pos h7, if_pos h7]; exact sameIns_calls _ _ _ _ _ _ _ _ _ _ _ _ _ _ _ _ _ _ _ _ w ht ht hz hz
 rw [if_neg h7, if_neg h7]
 by_cases h8 : 31 ≤ o ∧ o ≤ 33
 ·rw [if_pos h8, if_pos h8]; exact sameIns_calls _ _ _ _ _ _ _ _ _ _ _ _ _ _ _ _ _ _ _ _ w ht (Tab.nil w) hz (by simp)
 rw [if_neg h8, if_neg h8]
 by_cases h9 : o = 34
 ·rw [if_pos h9, if_pos h9]; exact sameIns_calls _ _ _ _ _ _ _ _ _ _ _ _ _ _ _ _ _ _ _ _ w ht (Tab.nil w) hz (by simp)
 rw [if_neg h9, if_neg h9]
 by_cases ha : o = 35 ∨ o = 39 ∨ o = 40
 ·rw [if_pos ha, if_pos ha]; exact sameIns_calls _ _ _ _ _ _ _ _ _ _ _ _ _ _ _ _ _ _ _ _ w ht (Tab.nil w) hz (by simp)
 rw [if_neg ha, if_neg ha]
 by_cases hb : (o = 37 ∨ o = 38 ∨ o = 44) ∨ (11 ≤ o ∧ o ≤ 22)
 ·rw [if_pos hb, if_pos hb]; exact sameIns_calls _ _ _ _ _ _ _ _ _ _ _ _ _ _ _ _ _ _ _ _ w ht (Tab.nil w) hz (by simp)
 rw [if_neg hb, if_neg hb]
 exact sameIns_calls _ _ _ _ _ _ _ _ _ _ _ _ _ _ _ _ _ _ _ _ w ht (Tab.nil w) hz (by simp)
theorem spec_high (n : Int) (h : 2147483648 ≤ n % 4294967296) : n % 4294967296 - 4294967296 = wrap32 n := by
 unfold wrap32; omega
theorem spec_low (n : Int) (h : n % 4294967296 < 2147483648) : n % 4294967296 = wrap32 n := by
 unfold wrap32; omega
theorem specWrap_calls (n : Int) (w : World) :
  Calls Tryz.prog 204 #[.int .i64 n] w fun e w' => e = .returned (.int .i64 (wrap32 n)) ∧ w' = w := by
 have ha := and32 n
 by_cases h : 2147483648 ≤ n % 4294967296
 ·go_enter Tryz.func204, Tryz.ntmps204
  go_wp2
  go_ret
  exact ⟨by simp [spec_high n h], rfl⟩
 ·have h' : n % 4294967296 < 2147483648 := by omega
  clear h
  go_enter Tryz.func204, Tryz.ntmps204
  go_wp2
  go_ret
  exact ⟨by simp [spec_low n h'], rfl⟩
theorem specWrap0_calls (w : World) : Calls Tryz.prog 204 #[.int .i64 0] w fun e w' => e = .returned (.int .i64 0) ∧ w' = w := by
 have h := specWrap_calls 0 w
 rwa [show wrap32 0 = 0 from by unfold wrap32; rfl] at h
theorem bits_zero (w : World) : Calls Tryz.prog 226 #[.int .i64 0] w fun e w' => e = .returned (.slice (some ⟨w.heap.size, 0, none⟩) 0 0) ∧ w' = w.alloc (.cells #[] 2) := by
 go_enter Tryz.func226, Tryz.ntmps226
 go_wp2
 go_loop [0, 3] (fun m v => m = .int .i64 0 ∧ v = .slice (some ⟨w.heap.size, 0, none⟩) 0 0) (fun _ _ => 0)
 case atStart => exact ⟨rfl, rfl⟩
 case round =>
  obtain ⟨rfl, rfl⟩ := hrel
  go_wp2
  go_ret
  exact ⟨rfl, rfl⟩
theorem signed_calls (s : Bool) (x : Int) (w : World) : Calls Tryz.prog 224 #[.bool s, .int .i64 x] w fun e w' => (∃ y, e = .returned (.int .i64 y)) ∧ w' = w := by
 cases s
 all_goals (
  go_enter Tryz.func224, Tryz.ntmps224
  go_wp2
  go_ret
  exact ⟨⟨_, rfl⟩, rfl⟩)
theorem round_none (s m : Bool) (x : Int) (ad : Option Addr) (c : Nat) (w : World) : Calls Tryz.prog 225 #[.bool s, .slice ad 0 c, .int .i64 x, .bool m] w fun e w' => (∃ y, e = .returned (.int .i64 y)) ∧ w' = w := by
 go_enter Tryz.func225, Tryz.ntmps225
 go_wp2
 go_loop [9] (fun n => n = .int .i64 0) (fun _ => 0)
 case atStart => rfl
 case round =>
  obtain rfl := hrel
  go_wp2_with (go_at_call 224; refine (signed_calls _ _ _).mono ?_; rintro e w' ⟨⟨y, rfl⟩, he⟩; subst he)
  go_ret
  exact ⟨⟨_, rfl⟩, rfl⟩
theorem round_one (s m : Bool) (x : Int) (g c : Nat) (w : World) (hc : w.cell? ⟨g, 0, none⟩ = some (.int .i64 0)) : Calls Tryz.prog 225 #[.bool s, .slice (some ⟨g, 0, none⟩) 1 c, .int .i64 x, .bool m] w fun e w' => (∃ y, e = .returned (.int .i64 y)) ∧ w' = w := by
 go_enter Tryz.func225, Tryz.ntmps225
 go_wp2
 go_loop [9] (fun n => n = .int .i64 0 ∨ n = .int .i64 1) (fun n => (intOf n).toNat)
 case atStart => exact .inr rfl
 case round =>
  rcases hrel with rfl | rfl
  ·go_wp2_with (go_at_call 224; refine (signed_calls _ _ _).mono ?_; rintro e w' ⟨⟨y, rfl⟩, he⟩; subst he)
   go_ret
   exact ⟨⟨_, rfl⟩, rfl⟩
  ·go_wp2
   go_round
   case rel => exact .inl rfl
   case measure => simp [intOf]
theorem elem2 : ∃ i0, Tryz.prog.info? 2 = some i0 ∧ i0.zero = some (.int .i64 0) ∧ i0.size = 1 ∧ i0.bytes = 8 := by
 obtain ⟨i0, hi0⟩ : ∃ i, Tryz.prog.info? 2 = some i := Option.isSome_iff_exists.1 (by kernel_rfl)
 refine ⟨i0, hi0, ?_, ?_, ?_⟩
 ·have : (Tryz.prog.info? 2).bind (·.zero) = some (.int .i64 0) := by kernel_rfl
  rw [hi0] at this; exact this
 ·have : (Tryz.prog.info? 2).map (·.size) = some 1 := by kernel_rfl
  rw [hi0] at this; exact Option.some.inj this
 ·have : (Tryz.prog.info? 2).map (·.bytes) = some 8 := by kernel_rfl
  rw [hi0] at this; exact Option.some.inj this
theorem bits0_below (w : World) : Calls Tryz.prog 226 #[.int .i64 0] w fun e w' => (∃ g, e = .returned (.slice (some ⟨g, 0, none⟩) 0 0)) ∧ Below w.heap.size w w' := by
 refine (bits_zero w).mono ?_
 rintro e w' ⟨rfl, rfl⟩
 exact ⟨⟨_, rfl⟩, below1 _ _⟩
theorem up0_calls (g c : Nat) (w : World) : Calls Tryz.prog 242 #[.slice (some ⟨g, 0, none⟩) 0 c, .int .i64 0] w fun e w' => (∃ a c', e = .returned (.slice a 0 c')) ∧ Below w.heap.size w w' := by
 obtain ⟨i0, hi0, hz0, hz1, hz2⟩ := elem2
 go_enter Tryz.func242, Tryz.ntmps242
 go_wp2_with (first | (refine wpList_make_full _ rfl (.tmp 5) (.tmp 5) 108 rfl w.heap.size 2 i0 (.int .i64 0) 1 Tryz.underlying108 hi0 hz0 hz1 .i64 .i64 0 0 0 rfl rfl rfl rfl (by rw [hz2]; omega) (by unfold maxLen; omega) (Nat.le_refl _) ?_; intro w1 hown1 hgrow1) | (at_builtin; refine wpList_append_own _ rfl (.tmp 6) (.tmp 7) 108 rfl w.heap.size 2 i0 (.int .i64 0) 1 8 Tryz.underlying108 hi0 hz0 hz1 hz2 rfl (by decide) _ _ _ rfl hown1 ⟨g, 0, none⟩ 0 c [] rfl rfl (fun j u hj => by simp at hj) (fun u hu => by simp at hu) (by unfold maxLen; omega) (by omega) hgrow1.size ?_; intro v' w2 hown2 hgrow2 _))
 have hb1 : Below w.heap.size w w1 := (Below.refl _ _).grown hgrow1 (Nat.le_refl _) (fun j hj => by cases hj)
 have hb2 : Below w.heap.size w w2 := hb1.grown hgrow2 hgrow1.size (fun j hj => Nat.le_of_eq (Option.some.inj hj))
 obtain ⟨a, c', rfl⟩ : ∃ a c', v' = .slice a 0 c' := by
  obtain ⟨_, ⟨rfl, _⟩ | ⟨g, cap, cur, rfl, _⟩⟩ := hown2
  ·exact ⟨_, _, rfl⟩
  ·exact ⟨_, _, rfl⟩
 go_ret
 exact ⟨⟨_, _, rfl⟩, hb2⟩
theorem sum0_calls (a a' : Option Addr) (c c' : Nat) (m : Bool) (w : World) : Calls Tryz.prog 243 #[.slice a 0 c, .slice a' 0 c', .bool m] w fun e w' => (∃ g cap, e = .returned (.slice (some ⟨g, 0, none⟩) 1 cap) ∧ w'.cell? ⟨g, 0, none⟩ = some (.int .i64 0)) ∧ Below w.heap.size w w' := by
 obtain ⟨i0, hi0, hz0, hz1, hz2⟩ := elem2
 go_enter Tryz.func243, Tryz.ntmps243
 go_wp2
 refine wp_loop_rounds 1 ?_
 rw [rounds_succ]
 have hown : (w.alloc (.cells #[] 2)).ownsRow w.heap.size 2 1 (.slice (some ⟨w.heap.size, 0, none⟩) 0 0) 0 [] := ⟨rfl, .inr ⟨w.heap.size, 0, #[], rfl, Nat.le_refl _, heap_alloc_last w _, Nat.le_refl _, Nat.zero_le _, rfl, by simp⟩⟩
 go_wp2_with (at_builtin; refine wpList_append_own _ rfl _ _ 108 rfl w.heap.size 2 i0 (.int .i64 0) 1 8 Tryz.underlying108 hi0 hz0 hz1 hz2 rfl (by decide) _ _ _ rfl (hown.alloc _) ⟨w.heap.size + 1, 0, none⟩ 1 1 [.int .i64 0] rfl rfl ?c1 ?c2 ?c3 ?c4 ?c5 ?_)
 try (case c1 =>
  intro j u hj
  match j, hj with
  | 0, hj => simp at hj; subst hj; simp [Addr.add])
 try (case c2 => first | rfl | (intro u hu; simp at hu; subst hu; rfl))
 case c3 => unfold maxLen; omega
 case c4 => omega
 case c5 => simp; omega
 intro v' w1 hown' hgrow _
 have hb1 : Below w.heap.size w w1 := (below2 w _ _).grown hgrow (by simp; omega) (fun j hj => by simp [Value.ownBlock] at hj; omega)
 have hcells := fun g hg => hown'.cells (g := g) hg
 obtain ⟨g, cap, rfl⟩ : ∃ g cap, v' = .slice (some ⟨g, 0, none⟩) 1 cap := by
  obtain ⟨_, ⟨_, h⟩ | ⟨g, cap, cur, rfl, _⟩⟩ := hown'
  ·cases h
  ·exact ⟨_, _, rfl⟩
 have hc := hcells g rfl 0 (.int .i64 0) rfl
 have hadd : (⟨g, 0, none⟩ : Addr).add 0 = ⟨g, 0, none⟩ := by unfold Addr.add; split <;> simp_all
 rw [hadd] at hc
 clear hcells hown' hgrow hadd hown
 go_wp2
 go_ret
 exact ⟨⟨g, cap, rfl, hc⟩, hb1⟩
theorem less0_calls (a a' : Option Addr) (c c' : Nat) (w : World) : Calls Tryz.prog 244 #[.slice a 0 c, .slice a' 0 c'] w fun e w' => e = .returned (.bool false) ∧ w' = w := by
 go_enter Tryz.func244, Tryz.ntmps244
 go_wp2
 refine wp_loop_rounds 1 ?_
 rw [rounds_succ]
 go_wp2
 go_ret
 exact ⟨rfl, rfl⟩
theorem keep0 {W W' : World} {p : Addr} {v : Value} (h : W.cell? p = some v) (hb : Below W.heap.size W W') : W'.cell? p = some v := by
 rw [hb.cell (p := p) (World.block_lt_of_cell? W p h)]; exact h
theorem belowL0 {B : Nat} {a w : World} (h : Below B a.drew w) : Below B a w := ⟨h.os, h.tape, h.output, h.size, h.block⟩
theorem keepAB {B : Nat} {s t : Bool} {m e n f : Int} {W W' : World}
  (h : W.cell? ⟨B, 0, none⟩ = some (.bool s) ∧ W.cell? ⟨B, 1, none⟩ = some (.int .i64 m) ∧ W.cell? ⟨B, 2, none⟩ = some (.int .i64 e) ∧ W.cell? ⟨B + 1, 0, none⟩ = some (.bool t) ∧ W.cell? ⟨B + 1, 1, none⟩ = some (.int .i64 n) ∧ W.cell? ⟨B + 1, 2, none⟩ = some (.int .i64 f))
  (hb : Below W.heap.size W W') :
  W'.cell? ⟨B, 0, none⟩ = some (.bool s) ∧ W'.cell? ⟨B, 1, none⟩ = some (.int .i64 m) ∧ W'.cell? ⟨B, 2, none⟩ = some (.int .i64 e) ∧ W'.cell? ⟨B + 1, 0, none⟩ = some (.bool t) ∧ W'.cell? ⟨B + 1, 1, none⟩ = some (.int .i64 n) ∧ W'.cell? ⟨B + 1, 2, none⟩ = some (.int .i64 f) := by
 obtain ⟨h1, h2, h3, h4, h5, h6⟩ := h
 have k : ∀ (p : Addr) (v : Value), W.cell? p = some v → W'.cell? p = some v := fun p v hv => by
  rw [hb.cell (p := p) (World.block_lt_of_cell? W p hv)]; exact hv
 exact ⟨k _ _ h1, k _ _ h2, k _ _ h3, k _ _ h4, k _ _ h5, k _ _ h6⟩
theorem startAB {s t : Bool} {m e n f c d : Int} {w W : World} (hW : W = (w.alloc (.cells #[.bool s, .int .i64 m, .int .i64 e, .int .i64 c] 214)).alloc (.cells #[.bool t, .int .i64 n, .int .i64 f, .int .i64 d] 214)) :
  W.cell? ⟨w.heap.size, 0, none⟩ = some (.bool s) ∧ W.cell? ⟨w.heap.size, 1, none⟩ = some (.int .i64 m) ∧ W.cell? ⟨w.heap.size, 2, none⟩ = some (.int .i64 e) ∧ W.cell? ⟨w.heap.size + 1, 0, none⟩ = some (.bool t) ∧ W.cell? ⟨w.heap.size + 1, 1, none⟩ = some (.int .i64 n) ∧ W.cell? ⟨w.heap.size + 1, 2, none⟩ = some (.int .i64 f) := by
 have h1 : W.heap[w.heap.size]? = some (.cells #[.bool s, .int .i64 m, .int .i64 e, .int .i64 c] 214) := by rw [hW]; exact heap_alloc2_old w _ _
 have h2 : W.heap[w.heap.size + 1]? = some (.cells #[.bool t, .int .i64 n, .int .i64 f, .int .i64 d] 214) := by
  have h := heap_alloc_last (w.alloc (.cells #[.bool s, .int .i64 m, .int .i64 e, .int .i64 c] 214)) (.cells #[.bool t, .int .i64 n, .int .i64 f, .int .i64 d] 214)
  rw [hW]
  simpa using h
 refine ⟨?_, ?_, ?_, ?_, ?_, ?_⟩
 ·simp [World.cell?, h1]
 ·simp [World.cell?, h1]
 ·simp [World.cell?, h1]
 ·simp [World.cell?, h2]
 ·simp [World.cell?, h2]
 ·simp [World.cell?, h2]
def SomeInt (w : World) (e : Ending) (w' : World) : Prop := (∃ x, e = .returned (.int .i64 x)) ∧ Below w.heap.size w w'
theorem add0_calls (t : Bool) (w : World) : Calls Tryz.prog 227 #[.agg #[.bool false, .int .i64 0, .int .i64 (-1074), .int .i64 0], .agg #[.bool t, .int .i64 0, .int .i64 (-1074), .int .i64 0]] w (SomeInt w) := by
 unfold SomeInt
 go_enter Tryz.func227, Tryz.ntmps227
 go_wp2
 obtain ⟨W, hW⟩ : ∃ W : World, W = ((w.alloc (.cells #[.bool false, .int .i64 0, .int .i64 (-1074), .int .i64 0] 214)).alloc (.cells #[.bool t, .int .i64 0, .int .i64 (-1074), .int .i64 0] 214)) := ⟨_, rfl⟩
 rw [← hW]
 have hbW : Below w.heap.size w W := by rw [hW]; exact below2 _ _ _
 have hS := startAB hW
 obtain ⟨hS1, hS2, hS3, hS4, hS5, hS6⟩ := hS
 clear hW
 go_region_held3 (fun W' => W'.cell? ⟨w.heap.size, 0, none⟩ = some (.bool false) ∧ W'.cell? ⟨w.heap.size, 1, none⟩ = some (.int .i64 0) ∧ W'.cell? ⟨w.heap.size, 2, none⟩ = some (.int .i64 (-1074)) ∧ W'.cell? ⟨w.heap.size + 1, 0, none⟩ = some (.bool t) ∧ W'.cell? ⟨w.heap.size + 1, 1, none⟩ = some (.int .i64 0) ∧ W'.cell? ⟨w.heap.size + 1, 2, none⟩ = some (.int .i64 (-1074))) (first | go_keep | (refine keepAB (by assumption) (by assumption))) (first | (go_at_call 226; refine (bits0_below _).mono ?_; rintro e1 w1 ⟨⟨g1, rfl⟩, hb1⟩) | (go_at_call 242; refine (up0_calls _ _ _).mono ?_; rintro e2 w2 ⟨⟨x, cx, rfl⟩, hb2⟩))
 have hB2 : Below w.heap.size w w2 := (hbW.trans ((belowL0 hb1).mono hbW.size)).trans (hb2.mono (Nat.le_trans hbW.size (belowL0 hb1).size))
 rename_i hHeld
 clear hS1 hS2 hS3 hS4 hS5 hS6 hb1 hb2 hbW
 obtain ⟨hS1, hS2, hS3, hS4, hS5, hS6⟩ := hHeld
 have hBH : Hid (Below w.heap.size w w2) := hB2
 clear hB2
 go_wp2
 go_region_held3 (fun W' => W'.cell? ⟨w.heap.size, 0, none⟩ = some (.bool false) ∧ W'.cell? ⟨w.heap.size, 1, none⟩ = some (.int .i64 0) ∧ W'.cell? ⟨w.heap.size, 2, none⟩ = some (.int .i64 (-1074)) ∧ W'.cell? ⟨w.heap.size + 1, 0, none⟩ = some (.bool t) ∧ W'.cell? ⟨w.heap.size + 1, 1, none⟩ = some (.int .i64 0) ∧ W'.cell? ⟨w.heap.size + 1, 2, none⟩ = some (.int .i64 (-1074))) (first | go_keep | (refine keepAB (by assumption) (by assumption))) (first | (go_at_call 226; refine (bits0_below _).mono ?_; rintro e3 w3 ⟨⟨g3, rfl⟩, hb3⟩) | (go_at_call 242; refine (up0_calls _ _ _).mono ?_; rintro e4 w4 ⟨⟨y, cy, rfl⟩, hb4⟩))
 have hb24 : Below w2.heap.size w2 w4 := (belowL0 hb3).trans (hb4.mono (belowL0 hb3).size)
 have hB4 : Below w.heap.size w w4 := hBH.out.trans (hb24.mono hBH.out.size)
 rename_i hHeld
 clear hS1 hS2 hS3 hS4 hS5 hS6 hb3 hb4 hb24 hBH
 obtain ⟨hS1, hS2, hS3, hS4, hS5, hS6⟩ := hHeld
 have hBH : Hid (Below w.heap.size w w4) := hB4
 clear hB4
 cases t with
 | false =>
  go_wp2
  go_region_held3 (fun W' => W'.cell? ⟨w.heap.size, 0, none⟩ = some (.bool false) ∧ W'.cell? ⟨w.heap.size, 1, none⟩ = some (.int .i64 0) ∧ W'.cell? ⟨w.heap.size, 2, none⟩ = some (.int .i64 (-1074)) ∧ W'.cell? ⟨w.heap.size + 1, 0, none⟩ = some (.bool false) ∧ W'.cell? ⟨w.heap.size + 1, 1, none⟩ = some (.int .i64 0) ∧ W'.cell? ⟨w.heap.size + 1, 2, none⟩ = some (.int .i64 (-1074))) (first | go_keep | (refine keepAB (by assumption) (by assumption))) (first | (go_at_call 243; refine (sum0_calls _ _ _ _ _ _).mono ?_; rintro e5 w5 ⟨⟨g5, c5, rfl, hc5⟩, hb5⟩) | (go_at_call 225; refine (round_one _ _ _ _ _ _ (by first | assumption | exact hc5)).mono ?_; rintro e6 w6 ⟨⟨z, rfl⟩, he6⟩; subst he6))
  go_wp2
  go_ret
  exact ⟨⟨_, rfl⟩, hBH.out.trans ((belowL0 hb5).mono hBH.out.size)⟩
 | true =>
  go_wp2_with (first | (go_at_call 244; refine (less0_calls _ _ _ _ _).mono ?_; rintro e5 w5 ⟨rfl, he⟩; subst he) | (go_at_call 243; refine (sum0_calls _ _ _ _ _ _).mono ?_; rintro e6 w6 ⟨⟨g5, c5, rfl, hc5⟩, hb5⟩; have hm := keep0 hS1 hb5) | (go_at_call 225; refine (round_one _ _ _ _ _ _ (by assumption)).mono ?_; rintro e6 w7 ⟨⟨z, rfl⟩, he6⟩; subst he6))
  go_ret
  exact ⟨⟨_, rfl⟩, hBH.out.trans (hb5.mono hBH.out.size)⟩
theorem mul0_calls (w : World) : Calls Tryz.prog 228 #[.agg #[.bool false, .int .i64 0, .int .i64 (-1074), .int .i64 0], .agg #[.bool false, .int .i64 0, .int .i64 (-1074), .int .i64 0]] w (SomeInt w) := by
 unfold SomeInt
 go_enter Tryz.func228, Tryz.ntmps228
 go_wp2_with (first | (go_at_call 226; refine (bits_zero _).mono ?_; rintro e1 w1 ⟨rfl, rfl⟩))
 refine wp_loop_rounds 1 ?_
 rw [rounds_succ]
 go_wp2_with (go_at_call 225; refine (round_none _ _ _ _ _ _).mono ?_; rintro e6 w7 ⟨⟨z, rfl⟩, he6⟩; subst he6)
 go_ret
 exact ⟨⟨_, rfl⟩, by repeat (first | exact below2 _ _ _ | refine below_below ?_ (below1 _ _))⟩
theorem div0_calls (w : World) : Calls Tryz.prog 229 #[.agg #[.bool false, .int .i64 0, .int .i64 (-1074), .int .i64 0], .agg #[.bool false, .int .i64 0, .int .i64 (-1074), .int .i64 0]] w (SomeInt w) := by
 unfold SomeInt
 go_enter Tryz.func229, Tryz.ntmps229
 go_wp2
 go_ret
 exact ⟨⟨_, rfl⟩, below2 _ _ _⟩
theorem open0_calls (w : World) : Calls Tryz.prog 205 #[.int .i64 0] w fun e w' => e = .returned (.agg #[.bool false, .int .i64 0, .int .i64 (-1074), .int .i64 0]) ∧ w' = (w.alloc (.cells #[.bool false, .int .i64 0, .int .i64 (-1074), .int .i64 0] 214)).alloc (.cells #[.bool false, .int .i64 0, .int .i64 (-1074), .int .i64 0] 214) := open_calls 0 w
def flop (o : Int) : Bool := o == 11 || o == 12 || o == 13 || o == 14 || o == 16
def PairB (ok : Bool) (w : World) (e : Ending) (w' : World) : Prop := (∃ x, e = .returned (.tuple #[.int .i64 x, .bool ok])) ∧ Below w.heap.size w w'
theorem below_cells {w W : World} (h : Below w.heap.size w W) (c : Array Value) (t : TypeId) : Below w.heap.size w (W.alloc (.cells c t)) := h.alloc h.size _
theorem flop_calls (o : Int) (w : World) : Calls Tryz.prog 207 #[.int .i64 o, .int .i64 0, .int .i64 0] w (PairB (flop o) w) := by
 unfold PairB
 by_cases h1 : o < 11
 ·have hr : flop o = false := by simp [flop]; omega
  rw [hr]
  clear hr
  go_enter Tryz.func207, Tryz.ntmps207
  go_wp2
  go_ret2
  exact ⟨⟨_, rfl⟩, Below.refl _ _⟩
 by_cases h2 : 16 < o
 ·have hr : flop o = false := by simp [flop]; omega
  rw [hr]
  clear hr
  go_enter Tryz.func207, Tryz.ntmps207
  go_wp2
  go_ret2
  exact ⟨⟨_, rfl⟩, Below.refl _ _⟩
 obtain rfl | rfl | rfl | rfl | rfl | rfl : o = 11 ∨ o = 12 ∨ o = 13 ∨ o = 14 ∨ o = 15 ∨ o = 16 := by omega
 all_goals (
  clear h1 h2
  show Calls Tryz.prog 207 _ w fun e w' => (∃ x, e = .returned (.tuple #[.int .i64 x, .bool _])) ∧ Below w.heap.size w w'
  go_enter Tryz.func207, Tryz.ntmps207
  go_wp2_with (first
   | (go_at_call 205; refine (open0_calls _).mono ?_; rintro e w' ⟨rfl, rfl⟩)
   | (go_at_call 227; refine (add0_calls _ _).mono ?_; rintro e w1 ⟨⟨z, rfl⟩, hb1⟩)
   | (go_at_call 228; refine (mul0_calls _).mono ?_; rintro e w1 ⟨⟨z, rfl⟩, hb1⟩)
   | (go_at_call 229; refine (div0_calls _).mono ?_; rintro e w1 ⟨⟨z, rfl⟩, hb1⟩))
  go_ret2
  refine ⟨⟨_, rfl⟩, ?_⟩
  repeat (first | exact Below.refl _ _ | apply below_cells | refine below_below ?_ (by assumption)))
end Go.Proofs.YtjjccimeikkogaaGreatDoor
