/- Two lists of records that read alike are found equal. -/
import Derived.Test.YtnoffenkmcmpfaaDoorBtB
namespace Go.Proofs.YtnoffenkmcmpfaaDoor
set_option linter.unusedVariables false
open Go.ChangeShapes Go.WideShapes Go.ChangeAt Go.RowKit

/-- What holding one element against another says. -/
def ElemEqF {α : Type} (f : Nat) (R : RdF α) (x : α) : Prop := ∀ (W : World) (r1 r2 : List Value) (F G : List Nat), R W r1 x F → R W r2 x G → Calls Tryd.prog f #[.agg r1.toArray, .agg r2.toArray] W fun e w' => e = .returned (.bool true) ∧ Below W.heap.size W w'

theorem eqStrs_none (a b : Option Addr) (c d : Nat) (w : World) : Calls Tryd.prog 32 #[.slice a 0 c, .slice b 0 d] w fun e w' => e = .returned (.bool true) ∧ w' = w := by
  go_enter Tryd.func32, Tryd.ntmps32
  go_wp2
  go_loop [5] (fun iv => iv = .int .i64 0) (fun _ => 0)
  case atStart => rfl
  case round =>
    subst hrel
    go_wp2
    go_ret
    exact ⟨rfl, rfl⟩

theorem eqHands_none (a b : Option Addr) (c d : Nat) (w : World) : Calls Tryd.prog 48 #[.slice a 0 c, .slice b 0 d] w fun e w' => e = .returned (.bool true) ∧ w' = w := by
  go_enter Tryd.func48, Tryd.ntmps48
  go_wp2
  go_loop [5] (fun iv => iv = .int .i64 0) (fun _ => 0)
  case atStart => rfl
  case round =>
    subst hrel
    go_wp2
    go_ret
    exact ⟨rfl, rfl⟩

theorem eqFrames_none (a b : Option Addr) (c d : Nat) (w : World) : Calls Tryd.prog 49 #[.slice a 0 c, .slice b 0 d] w fun e w' => e = .returned (.bool true) ∧ w' = w := by
  go_enter Tryd.func49, Tryd.ntmps49
  go_wp2
  go_loop [5] (fun iv => iv = .int .i64 0) (fun _ => 0)
  case atStart => rfl
  case round =>
    subst hrel
    go_wp2
    go_ret
    exact ⟨rfl, rfl⟩

theorem eqLines_none (a b : Option Addr) (c d : Nat) (w : World) : Calls Tryd.prog 50 #[.slice a 0 c, .slice b 0 d] w fun e w' => e = .returned (.bool true) ∧ w' = w := by
  go_enter Tryd.func50, Tryd.ntmps50
  go_wp2
  go_loop [5] (fun iv => iv = .int .i64 0) (fun _ => 0)
  case atStart => rfl
  case round =>
    subst hrel
    go_wp2
    go_ret
    exact ⟨rfl, rfl⟩

theorem eqInts_none (a b : Option Addr) (c d : Nat) (w : World) : Calls Tryd.prog 55 #[.slice a 0 c, .slice b 0 d] w fun e w' => e = .returned (.bool true) ∧ w' = w := by
  go_enter Tryd.func55, Tryd.ntmps55
  go_wp2
  go_loop [5] (fun iv => iv = .int .i64 0) (fun _ => 0)
  case atStart => rfl
  case round =>
    subst hrel
    go_wp2
    go_ret
    exact ⟨rfl, rfl⟩

set_option maxRecDepth 1000000 in
set_option maxHeartbeats 1000000 in
theorem eqField_calls (x : FieldL) : ElemEqF 43 FieldF x := by
  rintro w r1 r2 F G ⟨rfl, -⟩ ⟨rfl, -⟩
  have b0 : (x.name.toList != x.name.toList) = false := by simp
  have b1 : (x.ty.toList != x.ty.toList) = false := by simp
  have b2 : (x.flags != x.flags) = false := by simp
  go_enter Tryd.func43, Tryd.ntmps43
  go_wp2
  go_ret
  exact ⟨rfl, below_2 _ _ _⟩
set_option maxRecDepth 1000000 in
set_option maxHeartbeats 4000000 in
theorem eqIns_calls (x : InsL) : ElemEqF 51 InsF x := by
  rintro w r1 r2 F G ⟨rfl, -⟩ ⟨rfl, -⟩
  have b1 : (x.o != x.o) = false := by simp
  have b2 : (x.k != x.k) = false := by simp
  have b3 : (x.a != x.a) = false := by simp
  have b4 : (x.b != x.b) = false := by simp
  have b5 : (x.T.toList != x.T.toList) = false := by simp
  have b6 : (x.C.toList != x.C.toList) = false := by simp
  have b7 : (x.N.toList != x.N.toList) = false := by simp
  have b8 : (x.Y.toList != x.Y.toList) = false := by simp
  go_enter Tryd.func51, Tryd.ntmps51
  go_wp2_with (go_at_call 55; refine (eqInts_none _ _ _ _ _).mono ?_; rintro e w1 ⟨rfl, rfl⟩)
  go_ret
  exact ⟨rfl, below_2 _ _ _⟩

set_option maxRecDepth 1000000 in
set_option maxHeartbeats 1000000 in
theorem eqFieldS_calls (u v : Value) (xs : List FieldL) (w : World) (F G : List Nat) (hu : ListF FieldF 3 46 w u xs F) (hv : ListF FieldF 3 46 w v xs G) (hn : xs.length ≤ 1048576) (hel : ∀ x ∈ xs, ElemEqF 43 FieldF x) :
    Calls Tryd.prog 33 #[u, v] w fun e w' => e = .returned (.bool true) ∧ Below w.heap.size w w' := by
  obtain ⟨a, c, rfl⟩ := hu.form
  obtain ⟨a2, c2, rfl⟩ := hv.form
  have helH : Hid (∀ x ∈ xs, ElemEqF 43 FieldF x) := hel
  have huH : Hid (∀ wr, Below w.heap.size w wr → ListF FieldF 3 46 wr (.slice a xs.length c) xs F) := fun wr hw => hu.below FieldF.good hw
  have hvH : Hid (∀ wr, Below w.heap.size w wr → ListF FieldF 3 46 wr (.slice a2 xs.length c2) xs G) := fun wr hw => hv.below FieldF.good hw
  clear hu hv hel
  go_enter Tryd.func33, Tryd.ntmps33
  go_wp2
  go_loopw [5] (fun i wr => ∃ m : Nat, m ≤ xs.length ∧ i = .int .i64 m ∧ Hid (Below w.heap.size w wr)) (fun i _ => xs.length - (intOf i).toNat)
  case atStart => exact ⟨0, Nat.zero_le _, rfl, Below.refl _ _⟩
  case round =>
    obtain ⟨m, hm, rfl, hB⟩ := hrel
    by_cases hlt : m < xs.length
    · obtain ⟨b, r1, F1, rfl, hb1, hl1, hr1, -, hx1, -, -⟩ := (huH.out wr hB.out).at m hlt
      obtain ⟨b', r2, G1, rfl, hb2, hl2, hr2, -, hx2, -, -⟩ := (hvH.out wr hB.out).at m hlt
      have hlt' : (m : Int) < (xs.length : Int) := by omega
      have hcH : Hid (∀ W, Below wr.heap.size wr W → Calls Tryd.prog 43 #[.agg r1.toArray, .agg r2.toArray] W fun e w' => e = .returned (.bool true) ∧ Below W.heap.size W w') := fun W hW =>
        helH.out xs[m] (List.getElem_mem hlt) W r1 r2 F1 G1 (FieldF.good.stab hx1 (EqOn.below hW (FieldF.good.lt hx1))) (FieldF.good.stab hx2 (EqOn.below hW (FieldF.good.lt hx2)))
      obtain ⟨x, hx⟩ : ∃ x, x = xs[m] := ⟨_, rfl⟩
      rw [← hx] at hx1 hx2
      obtain ⟨rfl, -⟩ := hx1
      obtain ⟨rfl, -⟩ := hx2
      have hmk : Hid (∀ W, Below wr.heap.size wr W → (Below wr.heap.size wr W ∧ W.cell? ⟨b, m * 3, none⟩ = some (.string x.name) ∧ W.cell? ⟨b, m * 3 + 1, none⟩ = some (.string x.ty) ∧ W.cell? ⟨b, m * 3 + 2, none⟩ = some (.int .i64 x.flags) ∧ W.cell? ⟨b', m * 3, none⟩ = some (.string x.name) ∧ W.cell? ⟨b', m * 3 + 1, none⟩ = some (.string x.ty) ∧ W.cell? ⟨b', m * 3 + 2, none⟩ = some (.int .i64 x.flags))) := fun W hW => by
        have kp1 := rangeAt_kept hW hb1 hr1
        have kp2 := rangeAt_kept hW hb2 hr2
        exact ⟨hW, kp1 0 _ rfl, kp1 1 _ rfl, kp1 2 _ rfl, kp2 0 _ rfl, kp2 1 _ rfl, kp2 2 _ rfl⟩
      clear hr1 hr2 hl1 hl2 hb1 hb2 hx
      have hS0 := hmk.out wr (Below.refl _ _)
      go_wp2
      go_region_held3 (fun W => Below wr.heap.size wr W ∧ W.cell? ⟨b, m * 3, none⟩ = some (.string x.name) ∧ W.cell? ⟨b, m * 3 + 1, none⟩ = some (.string x.ty) ∧ W.cell? ⟨b, m * 3 + 2, none⟩ = some (.int .i64 x.flags) ∧ W.cell? ⟨b', m * 3, none⟩ = some (.string x.name) ∧ W.cell? ⟨b', m * 3 + 1, none⟩ = some (.string x.ty) ∧ W.cell? ⟨b', m * 3 + 2, none⟩ = some (.int .i64 x.flags)) (first | assumption | exact hmk.out _ (Below.drew (And.left (by assumption))) | exact hmk.out _ (below_on (And.left (by assumption)) (by assumption))) (first | (go_at_call 43; refine (hcH.out _ (by first | exact Below.refl _ _ | assumption | exact And.left (by assumption))).mono ?_; rintro e w2 ⟨rfl, hb2⟩))
      go_wp2
      go_roundw
      case rel => exact ⟨m + 1, by omega, by go_num, below_on hB.out (by first | assumption | exact And.left (by assumption))⟩
      case measure => simp [intOf]; omega
    · go_wp2
      go_ret
      exact ⟨rfl, hB.out⟩

set_option maxRecDepth 1000000 in
set_option maxHeartbeats 1000000 in
theorem eqInsS_calls (u v : Value) (xs : List InsL) (w : World) (F G : List Nat) (hu : ListF InsF 9 29 w u xs F) (hv : ListF InsF 9 29 w v xs G) (hn : xs.length ≤ 1048576) (hel : ∀ x ∈ xs, ElemEqF 51 InsF x) :
    Calls Tryd.prog 47 #[u, v] w fun e w' => e = .returned (.bool true) ∧ Below w.heap.size w w' := by
  obtain ⟨a, c, rfl⟩ := hu.form
  obtain ⟨a2, c2, rfl⟩ := hv.form
  have helH : Hid (∀ x ∈ xs, ElemEqF 51 InsF x) := hel
  have huH : Hid (∀ wr, Below w.heap.size w wr → ListF InsF 9 29 wr (.slice a xs.length c) xs F) := fun wr hw => hu.below InsF.good hw
  have hvH : Hid (∀ wr, Below w.heap.size w wr → ListF InsF 9 29 wr (.slice a2 xs.length c2) xs G) := fun wr hw => hv.below InsF.good hw
  clear hu hv hel
  go_enter Tryd.func47, Tryd.ntmps47
  go_wp2
  go_loopw [5] (fun i wr => ∃ m : Nat, m ≤ xs.length ∧ i = .int .i64 m ∧ Hid (Below w.heap.size w wr)) (fun i _ => xs.length - (intOf i).toNat)
  case atStart => exact ⟨0, Nat.zero_le _, rfl, Below.refl _ _⟩
  case round =>
    obtain ⟨m, hm, rfl, hB⟩ := hrel
    by_cases hlt : m < xs.length
    · obtain ⟨b, r1, F1, rfl, hb1, hl1, hr1, -, hx1, -, -⟩ := (huH.out wr hB.out).at m hlt
      obtain ⟨b', r2, G1, rfl, hb2, hl2, hr2, -, hx2, -, -⟩ := (hvH.out wr hB.out).at m hlt
      have hlt' : (m : Int) < (xs.length : Int) := by omega
      have hcH : Hid (∀ W, Below wr.heap.size wr W → Calls Tryd.prog 51 #[.agg r1.toArray, .agg r2.toArray] W fun e w' => e = .returned (.bool true) ∧ Below W.heap.size W w') := fun W hW =>
        helH.out xs[m] (List.getElem_mem hlt) W r1 r2 F1 G1 (InsF.good.stab hx1 (EqOn.below hW (InsF.good.lt hx1))) (InsF.good.stab hx2 (EqOn.below hW (InsF.good.lt hx2)))
      obtain ⟨x, hx⟩ : ∃ x, x = xs[m] := ⟨_, rfl⟩
      rw [← hx] at hx1 hx2
      obtain ⟨rfl, -⟩ := hx1
      obtain ⟨rfl, -⟩ := hx2
      have hmk : Hid (∀ W, Below wr.heap.size wr W → (Below wr.heap.size wr W ∧ W.cell? ⟨b, m * 9, none⟩ = some (.int .i64 x.o) ∧ W.cell? ⟨b, m * 9 + 1, none⟩ = some (.int .i64 x.k) ∧ W.cell? ⟨b, m * 9 + 2, none⟩ = some (.int .i64 x.a) ∧ W.cell? ⟨b, m * 9 + 3, none⟩ = some (.int .i64 x.b) ∧ W.cell? ⟨b, m * 9 + 4, none⟩ = some (.string x.T) ∧ W.cell? ⟨b, m * 9 + 5, none⟩ = some (.string x.C) ∧ W.cell? ⟨b, m * 9 + 6, none⟩ = some (.string x.N) ∧ W.cell? ⟨b, m * 9 + 7, none⟩ = some (.string x.Y) ∧ W.cell? ⟨b, m * 9 + 8, none⟩ = some (.slice none 0 0) ∧ W.cell? ⟨b', m * 9, none⟩ = some (.int .i64 x.o) ∧ W.cell? ⟨b', m * 9 + 1, none⟩ = some (.int .i64 x.k) ∧ W.cell? ⟨b', m * 9 + 2, none⟩ = some (.int .i64 x.a) ∧ W.cell? ⟨b', m * 9 + 3, none⟩ = some (.int .i64 x.b) ∧ W.cell? ⟨b', m * 9 + 4, none⟩ = some (.string x.T) ∧ W.cell? ⟨b', m * 9 + 5, none⟩ = some (.string x.C) ∧ W.cell? ⟨b', m * 9 + 6, none⟩ = some (.string x.N) ∧ W.cell? ⟨b', m * 9 + 7, none⟩ = some (.string x.Y) ∧ W.cell? ⟨b', m * 9 + 8, none⟩ = some (.slice none 0 0))) := fun W hW => by
        have kp1 := rangeAt_kept hW hb1 hr1
        have kp2 := rangeAt_kept hW hb2 hr2
        exact ⟨hW, kp1 0 _ rfl, kp1 1 _ rfl, kp1 2 _ rfl, kp1 3 _ rfl, kp1 4 _ rfl, kp1 5 _ rfl, kp1 6 _ rfl, kp1 7 _ rfl, kp1 8 _ rfl, kp2 0 _ rfl, kp2 1 _ rfl, kp2 2 _ rfl, kp2 3 _ rfl, kp2 4 _ rfl, kp2 5 _ rfl, kp2 6 _ rfl, kp2 7 _ rfl, kp2 8 _ rfl⟩
      clear hr1 hr2 hl1 hl2 hb1 hb2 hx
      have hS0 := hmk.out wr (Below.refl _ _)
      go_wp2
      go_region_held3 (fun W => Below wr.heap.size wr W ∧ W.cell? ⟨b, m * 9, none⟩ = some (.int .i64 x.o) ∧ W.cell? ⟨b, m * 9 + 1, none⟩ = some (.int .i64 x.k) ∧ W.cell? ⟨b, m * 9 + 2, none⟩ = some (.int .i64 x.a) ∧ W.cell? ⟨b, m * 9 + 3, none⟩ = some (.int .i64 x.b) ∧ W.cell? ⟨b, m * 9 + 4, none⟩ = some (.string x.T) ∧ W.cell? ⟨b, m * 9 + 5, none⟩ = some (.string x.C) ∧ W.cell? ⟨b, m * 9 + 6, none⟩ = some (.string x.N) ∧ W.cell? ⟨b, m * 9 + 7, none⟩ = some (.string x.Y) ∧ W.cell? ⟨b, m * 9 + 8, none⟩ = some (.slice none 0 0) ∧ W.cell? ⟨b', m * 9, none⟩ = some (.int .i64 x.o) ∧ W.cell? ⟨b', m * 9 + 1, none⟩ = some (.int .i64 x.k) ∧ W.cell? ⟨b', m * 9 + 2, none⟩ = some (.int .i64 x.a) ∧ W.cell? ⟨b', m * 9 + 3, none⟩ = some (.int .i64 x.b) ∧ W.cell? ⟨b', m * 9 + 4, none⟩ = some (.string x.T) ∧ W.cell? ⟨b', m * 9 + 5, none⟩ = some (.string x.C) ∧ W.cell? ⟨b', m * 9 + 6, none⟩ = some (.string x.N) ∧ W.cell? ⟨b', m * 9 + 7, none⟩ = some (.string x.Y) ∧ W.cell? ⟨b', m * 9 + 8, none⟩ = some (.slice none 0 0)) (first | assumption | exact hmk.out _ (Below.drew (And.left (by assumption))) | exact hmk.out _ (below_on (And.left (by assumption)) (by assumption))) (first | (go_at_call 51; refine (hcH.out _ (by first | exact Below.refl _ _ | assumption | exact And.left (by assumption))).mono ?_; rintro e w2 ⟨rfl, hb2⟩))
      go_wp2
      go_roundw
      case rel => exact ⟨m + 1, by omega, by go_num, below_on hB.out (by first | assumption | exact And.left (by assumption))⟩
      case measure => simp [intOf]; omega
    · go_wp2
      go_ret
      exact ⟨rfl, hB.out⟩

/-- Two records held against each other: each in a block of its own. -/
structure Rec2 (w W : World) (I J : List Value) : Prop where
  hb : Below w.heap.size w W
  sz : w.heap.size + 2 ≤ W.heap.size
  one : W.rangeAt w.heap.size 0 I
  two : W.rangeAt (w.heap.size + 1) 0 J
theorem Rec2.start {w W : World} {I J : Array Value} {t t' : TypeId} (hW : W = (w.alloc (.cells I t)).alloc (.cells J t')) : Rec2 w W I.toList J.toList := by
  have h1 : W.heap[w.heap.size + 1]? = some (.cells J t' (0, 0)) := by
    rw [hW]
    have h := heap_alloc_new (w.alloc (.cells I t)) (.cells J t')
    simpa using h
  have h0 : W.heap[w.heap.size]? = some (.cells I t (0, 0)) := by
    rw [hW, Below.heap_alloc _ _ _ (by simp)]
    exact heap_alloc_new w _
  exact ⟨by rw [hW]; exact below_2 _ _ _, by rw [hW]; simp, rangeAt_heap h0, rangeAt_heap h1⟩
theorem Rec2.call {w W w1 : World} {I J : List Value} (h : Rec2 w W I J) (hb : Below W.heap.size W w1) : Rec2 w w1 I J := by
  obtain ⟨h1, h2, h3, h4⟩ := h
  have := hb.size
  exact ⟨below_on h1 hb, by omega, rangeAt_kept hb (by omega) h3, rangeAt_kept hb (by omega) h4⟩
theorem Rec2.cell1 {w W : World} {I J : List Value} (h : Rec2 w W I J) (i : Nat) (v : Value) (hv : I[i]? = some v) : W.cell? ⟨w.heap.size, i, none⟩ = some v := by simpa using h.one i v hv
theorem Rec2.cell2 {w W : World} {I J : List Value} (h : Rec2 w W I J) (i : Nat) (v : Value) (hv : J[i]? = some v) : W.cell? ⟨w.heap.size + 1, i, none⟩ = some v := by simpa using h.two i v hv

set_option maxRecDepth 1000000 in
set_option maxHeartbeats 4000000 in
theorem eqMeth_calls (x : MethL) (hn : x.code.length ≤ 1048576) : ElemEqF 44 MethF x := by
  rintro w r1 r2 F G ⟨p1, rfl, hp1⟩ ⟨p2, rfl, hp2⟩
  have c5 : Hid (∀ W, Below w.heap.size w W → Calls Tryd.prog 47 #[p1, p2] W fun e w' => e = .returned (.bool true) ∧ Below W.heap.size W w') := fun W hW =>
    eqInsS_calls p1 p2 x.code W F G (hp1.below InsF.good hW) (hp2.below InsF.good hW) hn (fun y _ => eqIns_calls y)
  obtain ⟨a1, k1, rfl⟩ := hp1.form
  obtain ⟨a2, k2, rfl⟩ := hp2.form
  have b0 : (x.name.toList != x.name.toList) = false := by simp
  have b1 : (x.sig.toList != x.sig.toList) = false := by simp
  have b2 : (x.flags != x.flags) = false := by simp
  have b3 : (x.stack != x.stack) = false := by simp
  have b4 : (x.locals != x.locals) = false := by simp
  clear hp1 hp2 hn
  go_enter Tryd.func44, Tryd.ntmps44
  go_wp2_with fail
  obtain ⟨W0, hW0⟩ : ∃ W : World, W = (w.alloc (.cells #[.string x.name, .string x.sig, .int .i64 x.flags, .int .i64 x.stack, .int .i64 x.locals, .slice a1 x.code.length k1, .slice none 0 0, .slice none 0 0, .slice none 0 0] 36)).alloc (.cells #[.string x.name, .string x.sig, .int .i64 x.flags, .int .i64 x.stack, .int .i64 x.locals, .slice a2 x.code.length k2, .slice none 0 0, .slice none 0 0, .slice none 0 0] 36) := ⟨_, rfl⟩
  rw [← hW0]
  have r0 : Hid (Rec2 w W0 [.string x.name, .string x.sig, .int .i64 x.flags, .int .i64 x.stack, .int .i64 x.locals, .slice a1 x.code.length k1, .slice none 0 0, .slice none 0 0, .slice none 0 0] [.string x.name, .string x.sig, .int .i64 x.flags, .int .i64 x.stack, .int .i64 x.locals, .slice a2 x.code.length k2, .slice none 0 0, .slice none 0 0, .slice none 0 0]) := Rec2.start hW0
  clear hW0
  refine (c5.out W0 r0.out.hb).mono ?_
  rintro e w1 ⟨rfl, hb1⟩
  have r1 : Hid (Rec2 w w1 [.string x.name, .string x.sig, .int .i64 x.flags, .int .i64 x.stack, .int .i64 x.locals, .slice a1 x.code.length k1, .slice none 0 0, .slice none 0 0, .slice none 0 0] [.string x.name, .string x.sig, .int .i64 x.flags, .int .i64 x.stack, .int .i64 x.locals, .slice a2 x.code.length k2, .slice none 0 0, .slice none 0 0, .slice none 0 0]) := r0.out.call hb1
  have y6 := r1.out.cell1 6 _ rfl
  have z6 := r1.out.cell2 6 _ rfl
  have y7 := r1.out.cell1 7 _ rfl
  have z7 := r1.out.cell2 7 _ rfl
  have y8 := r1.out.cell1 8 _ rfl
  have z8 := r1.out.cell2 8 _ rfl
  clear hb1
  go_wp2_with (first
    | (go_at_call 48; refine (eqHands_none _ _ _ _ _).mono ?_; rintro e wz ⟨rfl, rfl⟩)
    | (go_at_call 49; refine (eqFrames_none _ _ _ _ _).mono ?_; rintro e wz ⟨rfl, rfl⟩)
    | (go_at_call 50; refine (eqLines_none _ _ _ _ _).mono ?_; rintro e wz ⟨rfl, rfl⟩))
  go_ret
  exact ⟨rfl, r1.out.hb⟩

set_option maxRecDepth 1000000 in
set_option maxHeartbeats 1000000 in
theorem eqMethS_calls (u v : Value) (xs : List MethL) (w : World) (F G : List Nat) (hu : ListF MethF 9 36 w u xs F) (hv : ListF MethF 9 36 w v xs G) (hn : xs.length ≤ 1048576) (hel : ∀ x ∈ xs, ElemEqF 44 MethF x) :
    Calls Tryd.prog 34 #[u, v] w fun e w' => e = .returned (.bool true) ∧ Below w.heap.size w w' := by
  obtain ⟨a, c, rfl⟩ := hu.form
  obtain ⟨a2, c2, rfl⟩ := hv.form
  have helH : Hid (∀ x ∈ xs, ElemEqF 44 MethF x) := hel
  have huH : Hid (∀ wr, Below w.heap.size w wr → ListF MethF 9 36 wr (.slice a xs.length c) xs F) := fun wr hw => hu.below MethF.good hw
  have hvH : Hid (∀ wr, Below w.heap.size w wr → ListF MethF 9 36 wr (.slice a2 xs.length c2) xs G) := fun wr hw => hv.below MethF.good hw
  clear hu hv hel
  go_enter Tryd.func34, Tryd.ntmps34
  go_wp2
  go_loopw [5] (fun i wr => ∃ m : Nat, m ≤ xs.length ∧ i = .int .i64 m ∧ Hid (Below w.heap.size w wr)) (fun i _ => xs.length - (intOf i).toNat)
  case atStart => exact ⟨0, Nat.zero_le _, rfl, Below.refl _ _⟩
  case round =>
    obtain ⟨m, hm, rfl, hB⟩ := hrel
    by_cases hlt : m < xs.length
    · obtain ⟨b, r1, F1, rfl, hb1, hl1, hr1, -, hx1, -, -⟩ := (huH.out wr hB.out).at m hlt
      obtain ⟨b', r2, G1, rfl, hb2, hl2, hr2, -, hx2, -, -⟩ := (hvH.out wr hB.out).at m hlt
      have hlt' : (m : Int) < (xs.length : Int) := by omega
      have hcH : Hid (∀ W, Below wr.heap.size wr W → Calls Tryd.prog 44 #[.agg r1.toArray, .agg r2.toArray] W fun e w' => e = .returned (.bool true) ∧ Below W.heap.size W w') := fun W hW =>
        helH.out xs[m] (List.getElem_mem hlt) W r1 r2 F1 G1 (MethF.good.stab hx1 (EqOn.below hW (MethF.good.lt hx1))) (MethF.good.stab hx2 (EqOn.below hW (MethF.good.lt hx2)))
      obtain ⟨x, hx⟩ : ∃ x, x = xs[m] := ⟨_, rfl⟩
      rw [← hx] at hx1 hx2
      obtain ⟨p1, rfl, -⟩ := hx1
      obtain ⟨p2, rfl, -⟩ := hx2
      have hmk : Hid (∀ W, Below wr.heap.size wr W → (Below wr.heap.size wr W ∧ W.cell? ⟨b, m * 9, none⟩ = some (.string x.name) ∧ W.cell? ⟨b, m * 9 + 1, none⟩ = some (.string x.sig) ∧ W.cell? ⟨b, m * 9 + 2, none⟩ = some (.int .i64 x.flags) ∧ W.cell? ⟨b, m * 9 + 3, none⟩ = some (.int .i64 x.stack) ∧ W.cell? ⟨b, m * 9 + 4, none⟩ = some (.int .i64 x.locals) ∧ W.cell? ⟨b, m * 9 + 5, none⟩ = some (p1) ∧ W.cell? ⟨b, m * 9 + 6, none⟩ = some (.slice none 0 0) ∧ W.cell? ⟨b, m * 9 + 7, none⟩ = some (.slice none 0 0) ∧ W.cell? ⟨b, m * 9 + 8, none⟩ = some (.slice none 0 0) ∧ W.cell? ⟨b', m * 9, none⟩ = some (.string x.name) ∧ W.cell? ⟨b', m * 9 + 1, none⟩ = some (.string x.sig) ∧ W.cell? ⟨b', m * 9 + 2, none⟩ = some (.int .i64 x.flags) ∧ W.cell? ⟨b', m * 9 + 3, none⟩ = some (.int .i64 x.stack) ∧ W.cell? ⟨b', m * 9 + 4, none⟩ = some (.int .i64 x.locals) ∧ W.cell? ⟨b', m * 9 + 5, none⟩ = some (p2) ∧ W.cell? ⟨b', m * 9 + 6, none⟩ = some (.slice none 0 0) ∧ W.cell? ⟨b', m * 9 + 7, none⟩ = some (.slice none 0 0) ∧ W.cell? ⟨b', m * 9 + 8, none⟩ = some (.slice none 0 0))) := fun W hW => by
        have kp1 := rangeAt_kept hW hb1 hr1
        have kp2 := rangeAt_kept hW hb2 hr2
        exact ⟨hW, kp1 0 _ rfl, kp1 1 _ rfl, kp1 2 _ rfl, kp1 3 _ rfl, kp1 4 _ rfl, kp1 5 _ rfl, kp1 6 _ rfl, kp1 7 _ rfl, kp1 8 _ rfl, kp2 0 _ rfl, kp2 1 _ rfl, kp2 2 _ rfl, kp2 3 _ rfl, kp2 4 _ rfl, kp2 5 _ rfl, kp2 6 _ rfl, kp2 7 _ rfl, kp2 8 _ rfl⟩
      clear hr1 hr2 hl1 hl2 hb1 hb2 hx
      have hS0 := hmk.out wr (Below.refl _ _)
      go_wp2
      go_region_held3 (fun W => Below wr.heap.size wr W ∧ W.cell? ⟨b, m * 9, none⟩ = some (.string x.name) ∧ W.cell? ⟨b, m * 9 + 1, none⟩ = some (.string x.sig) ∧ W.cell? ⟨b, m * 9 + 2, none⟩ = some (.int .i64 x.flags) ∧ W.cell? ⟨b, m * 9 + 3, none⟩ = some (.int .i64 x.stack) ∧ W.cell? ⟨b, m * 9 + 4, none⟩ = some (.int .i64 x.locals) ∧ W.cell? ⟨b, m * 9 + 5, none⟩ = some (p1) ∧ W.cell? ⟨b, m * 9 + 6, none⟩ = some (.slice none 0 0) ∧ W.cell? ⟨b, m * 9 + 7, none⟩ = some (.slice none 0 0) ∧ W.cell? ⟨b, m * 9 + 8, none⟩ = some (.slice none 0 0) ∧ W.cell? ⟨b', m * 9, none⟩ = some (.string x.name) ∧ W.cell? ⟨b', m * 9 + 1, none⟩ = some (.string x.sig) ∧ W.cell? ⟨b', m * 9 + 2, none⟩ = some (.int .i64 x.flags) ∧ W.cell? ⟨b', m * 9 + 3, none⟩ = some (.int .i64 x.stack) ∧ W.cell? ⟨b', m * 9 + 4, none⟩ = some (.int .i64 x.locals) ∧ W.cell? ⟨b', m * 9 + 5, none⟩ = some (p2) ∧ W.cell? ⟨b', m * 9 + 6, none⟩ = some (.slice none 0 0) ∧ W.cell? ⟨b', m * 9 + 7, none⟩ = some (.slice none 0 0) ∧ W.cell? ⟨b', m * 9 + 8, none⟩ = some (.slice none 0 0)) (first | assumption | exact hmk.out _ (Below.drew (And.left (by assumption))) | exact hmk.out _ (below_on (And.left (by assumption)) (by assumption))) (first | (go_at_call 44; refine (hcH.out _ (by first | exact Below.refl _ _ | assumption | exact And.left (by assumption))).mono ?_; rintro e w2 ⟨rfl, hb2⟩))
      go_wp2
      go_roundw
      case rel => exact ⟨m + 1, by omega, by go_num, below_on hB.out (by first | assumption | exact And.left (by assumption))⟩
      case measure => simp [intOf]; omega
    · go_wp2
      go_ret
      exact ⟨rfl, hB.out⟩

set_option maxRecDepth 1000000 in
set_option maxHeartbeats 4000000 in
theorem eqClass_calls (x : ClassL) (hf : x.fields.length ≤ 1048576) (hm : x.meths.length ≤ 1048576) (hc : ∀ y ∈ x.meths, y.code.length ≤ 1048576) : ElemEqF 20 ClassF x := by
  rintro w r1 r2 F G ⟨s1, t1, F1, F2, rfl, hs1, ht1, -⟩ ⟨s2, t2, G1, G2, rfl, hs2, ht2, -⟩
  have c5 : Hid (∀ W, Below w.heap.size w W → Calls Tryd.prog 33 #[s1, s2] W fun e w' => e = .returned (.bool true) ∧ Below W.heap.size W w') := fun W hW =>
    eqFieldS_calls s1 s2 x.fields W F1 G1 (hs1.below FieldF.good hW) (hs2.below FieldF.good hW) hf (fun y _ => eqField_calls y)
  have c6 : Hid (∀ W, Below w.heap.size w W → Calls Tryd.prog 34 #[t1, t2] W fun e w' => e = .returned (.bool true) ∧ Below W.heap.size W w') := fun W hW =>
    eqMethS_calls t1 t2 x.meths W F2 G2 (ht1.below MethF.good hW) (ht2.below MethF.good hW) hm (fun y hy => eqMeth_calls y (hc y hy))
  obtain ⟨a1, k1, rfl⟩ := hs1.form
  obtain ⟨a2, k2, rfl⟩ := hs2.form
  obtain ⟨a3, k3, rfl⟩ := ht1.form
  obtain ⟨a4, k4, rfl⟩ := ht2.form
  have b0 : (x.name.toList != x.name.toList) = false := by simp
  have b1 : (x.super.toList != x.super.toList) = false := by simp
  have b2 : (x.flags != x.flags) = false := by simp
  clear hs1 hs2 ht1 ht2 hf hm hc
  go_enter Tryd.func20, Tryd.ntmps20
  go_wp2_with (go_at_call 32; refine (eqStrs_none _ _ _ _ _).mono ?_; rintro e wz ⟨rfl, rfl⟩)
  obtain ⟨W0, hW0⟩ : ∃ W : World, W = (w.alloc (.cells #[.string x.name, .string x.super, .slice none 0 0, .int .i64 x.flags, .slice none 0 0, .slice a1 x.fields.length k1, .slice a3 x.meths.length k3] 42)).alloc (.cells #[.string x.name, .string x.super, .slice none 0 0, .int .i64 x.flags, .slice none 0 0, .slice a2 x.fields.length k2, .slice a4 x.meths.length k4] 42) := ⟨_, rfl⟩
  rw [← hW0]
  have r0 : Hid (Rec2 w W0 [.string x.name, .string x.super, .slice none 0 0, .int .i64 x.flags, .slice none 0 0, .slice a1 x.fields.length k1, .slice a3 x.meths.length k3] [.string x.name, .string x.super, .slice none 0 0, .int .i64 x.flags, .slice none 0 0, .slice a2 x.fields.length k2, .slice a4 x.meths.length k4]) := Rec2.start hW0
  clear hW0
  refine (c5.out W0 r0.out.hb).mono ?_
  rintro e w1 ⟨rfl, hb1⟩
  have r1 : Hid (Rec2 w w1 [.string x.name, .string x.super, .slice none 0 0, .int .i64 x.flags, .slice none 0 0, .slice a1 x.fields.length k1, .slice a3 x.meths.length k3] [.string x.name, .string x.super, .slice none 0 0, .int .i64 x.flags, .slice none 0 0, .slice a2 x.fields.length k2, .slice a4 x.meths.length k4]) := r0.out.call hb1
  have y6 := r1.out.cell1 6 _ rfl
  have z6 := r1.out.cell2 6 _ rfl
  clear hb1
  go_wp2_with fail
  clear y6 z6
  refine (c6.out w1 r1.out.hb).mono ?_
  rintro e w2 ⟨rfl, hb2⟩
  have r2 : Hid (Rec2 w w2 [.string x.name, .string x.super, .slice none 0 0, .int .i64 x.flags, .slice none 0 0, .slice a1 x.fields.length k1, .slice a3 x.meths.length k3] [.string x.name, .string x.super, .slice none 0 0, .int .i64 x.flags, .slice none 0 0, .slice a2 x.fields.length k2, .slice a4 x.meths.length k4]) := r1.out.call hb2
  clear hb2
  go_wp2
  go_ret
  exact ⟨rfl, r2.out.hb⟩

set_option maxRecDepth 1000000 in
set_option maxHeartbeats 1000000 in
theorem eqClassS_calls (u v : Value) (xs : List ClassL) (w : World) (F G : List Nat) (hu : ListF ClassF 7 42 w u xs F) (hv : ListF ClassF 7 42 w v xs G) (hn : xs.length ≤ 1048576) (hel : ∀ x ∈ xs, ElemEqF 20 ClassF x) :
    Calls Tryd.prog 6 #[u, v] w fun e w' => e = .returned (.bool true) ∧ Below w.heap.size w w' := by
  obtain ⟨a, c, rfl⟩ := hu.form
  obtain ⟨a2, c2, rfl⟩ := hv.form
  have helH : Hid (∀ x ∈ xs, ElemEqF 20 ClassF x) := hel
  have huH : Hid (∀ wr, Below w.heap.size w wr → ListF ClassF 7 42 wr (.slice a xs.length c) xs F) := fun wr hw => hu.below ClassF.good hw
  have hvH : Hid (∀ wr, Below w.heap.size w wr → ListF ClassF 7 42 wr (.slice a2 xs.length c2) xs G) := fun wr hw => hv.below ClassF.good hw
  clear hu hv hel
  go_enter Tryd.func6, Tryd.ntmps6
  go_wp2
  go_loopw [5] (fun i wr => ∃ m : Nat, m ≤ xs.length ∧ i = .int .i64 m ∧ Hid (Below w.heap.size w wr)) (fun i _ => xs.length - (intOf i).toNat)
  case atStart => exact ⟨0, Nat.zero_le _, rfl, Below.refl _ _⟩
  case round =>
    obtain ⟨m, hm, rfl, hB⟩ := hrel
    by_cases hlt : m < xs.length
    · obtain ⟨b, r1, F1, rfl, hb1, hl1, hr1, -, hx1, -, -⟩ := (huH.out wr hB.out).at m hlt
      obtain ⟨b', r2, G1, rfl, hb2, hl2, hr2, -, hx2, -, -⟩ := (hvH.out wr hB.out).at m hlt
      have hlt' : (m : Int) < (xs.length : Int) := by omega
      have hcH : Hid (∀ W, Below wr.heap.size wr W → Calls Tryd.prog 20 #[.agg r1.toArray, .agg r2.toArray] W fun e w' => e = .returned (.bool true) ∧ Below W.heap.size W w') := fun W hW =>
        helH.out xs[m] (List.getElem_mem hlt) W r1 r2 F1 G1 (ClassF.good.stab hx1 (EqOn.below hW (ClassF.good.lt hx1))) (ClassF.good.stab hx2 (EqOn.below hW (ClassF.good.lt hx2)))
      obtain ⟨x, hx⟩ : ∃ x, x = xs[m] := ⟨_, rfl⟩
      rw [← hx] at hx1 hx2
      obtain ⟨s1, t1, P1, Q1, rfl, -⟩ := hx1
      obtain ⟨s2, t2, P2, Q2, rfl, -⟩ := hx2
      have hmk : Hid (∀ W, Below wr.heap.size wr W → (Below wr.heap.size wr W ∧ W.cell? ⟨b, m * 7, none⟩ = some (.string x.name) ∧ W.cell? ⟨b, m * 7 + 1, none⟩ = some (.string x.super) ∧ W.cell? ⟨b, m * 7 + 2, none⟩ = some (.slice none 0 0) ∧ W.cell? ⟨b, m * 7 + 3, none⟩ = some (.int .i64 x.flags) ∧ W.cell? ⟨b, m * 7 + 4, none⟩ = some (.slice none 0 0) ∧ W.cell? ⟨b, m * 7 + 5, none⟩ = some (s1) ∧ W.cell? ⟨b, m * 7 + 6, none⟩ = some (t1) ∧ W.cell? ⟨b', m * 7, none⟩ = some (.string x.name) ∧ W.cell? ⟨b', m * 7 + 1, none⟩ = some (.string x.super) ∧ W.cell? ⟨b', m * 7 + 2, none⟩ = some (.slice none 0 0) ∧ W.cell? ⟨b', m * 7 + 3, none⟩ = some (.int .i64 x.flags) ∧ W.cell? ⟨b', m * 7 + 4, none⟩ = some (.slice none 0 0) ∧ W.cell? ⟨b', m * 7 + 5, none⟩ = some (s2) ∧ W.cell? ⟨b', m * 7 + 6, none⟩ = some (t2))) := fun W hW => by
        have kp1 := rangeAt_kept hW hb1 hr1
        have kp2 := rangeAt_kept hW hb2 hr2
        exact ⟨hW, kp1 0 _ rfl, kp1 1 _ rfl, kp1 2 _ rfl, kp1 3 _ rfl, kp1 4 _ rfl, kp1 5 _ rfl, kp1 6 _ rfl, kp2 0 _ rfl, kp2 1 _ rfl, kp2 2 _ rfl, kp2 3 _ rfl, kp2 4 _ rfl, kp2 5 _ rfl, kp2 6 _ rfl⟩
      clear hr1 hr2 hl1 hl2 hb1 hb2 hx
      have hS0 := hmk.out wr (Below.refl _ _)
      go_wp2
      go_region_held3 (fun W => Below wr.heap.size wr W ∧ W.cell? ⟨b, m * 7, none⟩ = some (.string x.name) ∧ W.cell? ⟨b, m * 7 + 1, none⟩ = some (.string x.super) ∧ W.cell? ⟨b, m * 7 + 2, none⟩ = some (.slice none 0 0) ∧ W.cell? ⟨b, m * 7 + 3, none⟩ = some (.int .i64 x.flags) ∧ W.cell? ⟨b, m * 7 + 4, none⟩ = some (.slice none 0 0) ∧ W.cell? ⟨b, m * 7 + 5, none⟩ = some (s1) ∧ W.cell? ⟨b, m * 7 + 6, none⟩ = some (t1) ∧ W.cell? ⟨b', m * 7, none⟩ = some (.string x.name) ∧ W.cell? ⟨b', m * 7 + 1, none⟩ = some (.string x.super) ∧ W.cell? ⟨b', m * 7 + 2, none⟩ = some (.slice none 0 0) ∧ W.cell? ⟨b', m * 7 + 3, none⟩ = some (.int .i64 x.flags) ∧ W.cell? ⟨b', m * 7 + 4, none⟩ = some (.slice none 0 0) ∧ W.cell? ⟨b', m * 7 + 5, none⟩ = some (s2) ∧ W.cell? ⟨b', m * 7 + 6, none⟩ = some (t2)) (first | assumption | exact hmk.out _ (Below.drew (And.left (by assumption))) | exact hmk.out _ (below_on (And.left (by assumption)) (by assumption))) (first | (go_at_call 20; refine (hcH.out _ (by first | exact Below.refl _ _ | assumption | exact And.left (by assumption))).mono ?_; rintro e w2 ⟨rfl, hb2⟩))
      go_wp2
      go_roundw
      case rel => exact ⟨m + 1, by omega, by go_num, below_on hB.out (by first | assumption | exact And.left (by assumption))⟩
      case measure => simp [intOf]; omega
    · go_wp2
      go_ret
      exact ⟨rfl, hB.out⟩

end Go.Proofs.YtnoffenkmcmpfaaDoor
