import Derived.Test.YtjjccimeikkogaaGreatDoorLkU
namespace Go.Proofs.YtjjccimeikkogaaGreatDoor
set_option linter.unusedVariables false
open Go.Maps Go.WideMaps
open Go.ChangeShapes Go.WideShapes Go.ChangeAt Go.RowKit Go.Shelf
theorem lt_cell {w : World} {a : Addr} {v : Value} (h : w.cell? a = some v) : a.block < w.heap.size := by
 by_cases q : a.block < w.heap.size
 ·exact q
 ·rw [World.cell?] at h
  simp only [Array.getElem?_eq_none (Nat.le_of_not_lt q)] at h
  cases h
theorem SpcAt.itd {w : World} {b0 P : Nat} {all : List ClassL} {av ov : Value} {M J R rc : Nat} {D : DataW Unit} (h : SpcAt w b0 P all av ov M J R rc D) (h0 : 0 < all.length) : ∃ CE : Nat → Array Value, ItD w w.heap.size P all av ov M J R rc D CE := by
 rcases h.all_ with ⟨_, e⟩ | ⟨b, off, c, rfl, hb, hx⟩
 ·rw [e] at h0; cases h0
 ·have hP := lt_of h.blk
  have hM : M < w.heap.size := by
   obtain ⟨es, clock, hb', rest⟩ := h.map
   exact lt_of hb'
  let CE : Nat → Array Value := fun k => if hk : k < all.length then (Classical.choose (hx k hk)).toArray else #[]
  have hCE : ∀ k (hk : k < all.length), (CE k).toList.length = 7 ∧ w.rangeAt b (off + k * 7) (CE k).toList ∧ ClsK w.heap.size w (CE k).toList all[k] := fun k hk => by
   have := Classical.choose_spec (hx k hk)
   simp only [CE, hk, dif_pos]
   exact this
  refine ⟨CE, ⟨_, h.blk⟩, ⟨b, off, c, rfl, hb, fun k hk => ⟨by have := (hCE k hk).1; simpa using this, (hCE k hk).2.1⟩⟩, fun k hk => ?_, h.map, h.num, hP, hM, Nat.le_refl _⟩
  obtain ⟨p, q, s, t, e, r⟩ := (hCE k hk).2.2
  refine ⟨p, q, s, t, ?_, r⟩
  have : (CE k).toList.toArray = #[.string (all[k]).name, .string (all[k]).super, p, .int .i64 (all[k]).flags, q, s, t] := by rw [e]
  simpa using this
structure HaW (w w' : World) (P R N k mr rc : Nat) (row : List Nat) : Prop where
 b : Below w.heap.size w w'
 m : w.heap.size ≤ mr
 row : ∃ cur, w'.heap[mr]? = some (.cells cur 4 (0, 0)) ∧ ∀ j, j < N → cur[j]? = some (.bool (decide (j ∈ row)))
theorem HaW.fin {w w' : World} {P R N k mr rc b0 : Nat} {row : List Nat} (h : HaW w w' P R N k mr rc row) {v p3 r0 : Value} (hne : P ≠ R) (hb0 : b0 ≤ R) (c3 : w.cell? ⟨P, 3, none⟩ = some p3) (cr : w.cell? ⟨R, k, none⟩ = some r0) {j : Nat} (hj : j < N) :
  (w'.setCell ⟨R, k, none⟩ v).cell? ⟨P, 3, none⟩ = some p3 ∧ (w'.setCell ⟨R, k, none⟩ v).cell? ⟨R, k, none⟩ = some v ∧ (w'.setCell ⟨R, k, none⟩ v).cell? ⟨mr, j, none⟩ = some (.bool (decide (j ∈ row))) ∧ Below b0 w (w'.setCell ⟨R, k, none⟩ v) := by
 have lP := lt_cell c3
 have lR := lt_cell cr
 simp only at lP lR
 have c3' := (h.b.cell (p := ⟨P, 3, none⟩) lP).trans c3
 have cr' := (h.b.cell (p := ⟨R, k, none⟩) lR).trans cr
 obtain ⟨cur, h1, h2⟩ := h.row
 have hm := h.m
 refine ⟨?_, ?_, ?_, ?_⟩
 ·exact (World.cell?_of_block (Below.heap_setCell w' ⟨R, k, none⟩ v P hne)).trans c3'
 ·exact World.cell?_setCell_same' _ _ _ (by rw [cr']; rfl)
 ·refine (World.cell?_of_block (w := w') (Below.heap_setCell w' ⟨R, k, none⟩ v mr (by simp only; omega))).trans ?_
  simp only [World.cell?, h1]
  exact h2 j hj
 ·refine ⟨h.b.os, h.b.tape, h.b.output, by simpa [World.setCell] using h.b.size, fun i hi => ?_⟩
  rw [Below.heap_setCell _ _ _ _ (by simp only; omega)]
  exact h.b.block i (by omega)
set_option maxRecDepth 1000000 in
set_option maxHeartbeats 8000000 in
theorem hasAbove_calls (x y : ByteArray) (w : World) (b0 P : Nat) (all : List ClassL) (av ov : Value) (M J R rc : Nat) (D : DataW Unit) (hok : AllOk all) (h3 : 3 ≤ all.length) (hsp : SpcAt w b0 P all av ov M J R rc D) (hx : x.size ≤ 1048576) (hy : y.size ≤ 1048576) :
  Calls Tryz.prog 95 #[.pointer (some ⟨P, 0, none⟩), .string x, .string y] w fun e w' => e = .returned (.bool (abvB all x.data.toList y.data.toList)) ∧ Below b0 w w' := by
 have hkx : Hid (keyOf Tryz.prog 9 (.string x) = some (.string (strLit x))) := keyOf_string_mk Tryz.underlying9 (by unfold maxLen; omega)
 have hky : Hid (keyOf Tryz.prog 9 (.string y) = some (.string (strLit y))) := keyOf_string_mk Tryz.underlying9 (by unfold maxLen; omega)
 have hes : ∀ s : ByteArray, strLit s = s.data.toList := fun s => rfl
 have c2 : w.cell? ⟨P, 2, none⟩ = some (.map (some M)) := by simp [World.cell?, hsp.blk]
 have c3 : w.cell? ⟨P, 3, none⟩ = some (.slice (some ⟨R, 0, none⟩) all.length rc) := by simp [World.cell?, hsp.blk]
 have hoM : Hid (w.ownsMap Tryz.prog 9 (plainElem Tryz.prog 3) M all.length D) := hsp.map
 have hhx : Maps.has D (.string (strLit x)) = (atL all x.data.toList).isSome := by have := hsp.num.has (strLit x); rwa [List.take_length, hes] at this
 have hhy : Maps.has D (.string (strLit y)) = (atL all y.data.toList).isSome := by have := hsp.num.has (strLit y); rwa [List.take_length, hes] at this
 cases hax : atL all x.data.toList with
 | none =>
  have hv : abvB all x.data.toList y.data.toList = false := by
   unfold abvB
   rw [abvL_none hax]
   cases atL all y.data.toList <;> simp
  rw [hv]
  rw [hax] at hhx
  clear hok h3 hsp c3 hhy hax hv
  go_enter Tryz.func95, Tryz.ntmps95
  go_wp2_with (first
   | (at_lookup; refine wpList_lookup_own_ok_int _ rfl _ _ 74 rfl 9 3 .i64 (string_keyed Tryz.underlying9) Tryz.underlying74 Tryz.underlying3 (Tryz.zeroValue3 _) M all.length D rfl hoM.out _ _ rfl hkx.out ?_; intro c hc hwc; rw [hhx])
   | (at_lookup; refine wpList_lookup_own_ok_int _ rfl _ _ 74 rfl 9 3 .i64 (string_keyed Tryz.underlying9) Tryz.underlying74 Tryz.underlying3 (Tryz.zeroValue3 _) M all.length D rfl hoM.out _ _ rfl hky.out ?_; intro c hc hwc))
  go_ret
  exact ⟨rfl, Below.refl _ _⟩
 | some fr =>
  rw [hax] at hhx
  cases hay : atL all y.data.toList with
  | none =>
   have hv : abvB all x.data.toList y.data.toList = false := by unfold abvB; rw [hay]
   rw [hv]
   rw [hay] at hhy
   clear hok h3 hsp c3 hax hay hv
   go_enter Tryz.func95, Tryz.ntmps95
   go_wp2_with (first
    | (at_lookup; refine wpList_lookup_own_ok_int _ rfl _ _ 74 rfl 9 3 .i64 (string_keyed Tryz.underlying9) Tryz.underlying74 Tryz.underlying3 (Tryz.zeroValue3 _) M all.length D rfl hoM.out _ _ rfl hkx.out ?_; intro c hc hwc; rw [hhx])
    | (at_lookup; refine wpList_lookup_own_ok_int _ rfl _ _ 74 rfl 9 3 .i64 (string_keyed Tryz.underlying9) Tryz.underlying74 Tryz.underlying3 (Tryz.zeroValue3 _) M all.length D rfl hoM.out _ _ rfl hky.out ?_; intro c hc hwc; rw [hhy]))
   go_ret
   exact ⟨rfl, Below.refl _ _⟩
  | some up =>
   rw [hay] at hhy
   obtain ⟨hfl, -⟩ := atL_lt hax
   obtain ⟨htl, -⟩ := atL_lt hay
   have hyx : Hid (D.atKey (.string (strLit x)) (.lit (.int .i64 0)) = .lit (.int .i64 fr)) := hsp.num.at_ (strLit x) fr (by rw [List.take_length, hes]; exact hax)
   have hyy : Hid (D.atKey (.string (strLit y)) (.lit (.int .i64 0)) = .lit (.int .i64 up)) := hsp.num.at_ (strLit y) up (by rw [List.take_length, hes]; exact hay)
   obtain ⟨cr, ff⟩ := hsp.rch fr hfl
   have hv : abvB all x.data.toList y.data.toList = decide (up ∈ abvL all x.toList) := by unfold abvB; rw [hay, ByteArray.toList_eq]
   rw [hv]
   have hne : Hid (P ≠ R) := fun e => by
    have := (hsp.rch 2 (by omega)).1
    rw [← e, c2] at this
    cases this
   have hRC : Hid (∀ W, Below w.heap.size w W → Calls Tryz.prog 133 #[.pointer (some ⟨P, 0, none⟩), .string x] W fun e w' => ∃ mr, e = .returned (.slice (some ⟨mr, 0, none⟩) all.length all.length) ∧ HaW w w' P R all.length fr mr rc (abvL all x.toList) ∧
     w'.cell? ⟨P, 3, none⟩ = some (.slice (some ⟨R, 0, none⟩) all.length rc) ∧ w'.cell? ⟨R, fr, none⟩ = some (.slice none 0 0) ∧ w'.frozen? ⟨R, fr, none⟩ = false) := fun W hW => by
    obtain ⟨CE, hd⟩ := hsp.itd (by omega)
    refine (reached_calls x W _ P all av ov M J R rc D CE hok (hd.kept hW) hx).mono ?_
    rintro e w' ⟨⟨mr, rfl, hm, hrow⟩, hb⟩
    have hbw : Below w.heap.size w w' := below_on2 hW hb
    have lR := lt_cell cr
    exact ⟨mr, rfl, ⟨hbw, Nat.le_trans hW.size hm, hrow⟩, (hbw.cell (p := ⟨P, 3, none⟩) (lt_cell c3)).trans c3, (hbw.cell (p := ⟨R, fr, none⟩) lR).trans cr, (hbw.frozen (p := ⟨R, fr, none⟩) lR).trans ff⟩
   have hb0 : Hid (b0 ≤ R) := hsp.lo.2
   have q73 : ∀ (w : World) (a : Option Addr) (n c n' c' : Nat), (binOp .eql 73 (.slice a n c) (.slice none n' c')).run Tryz.prog w = .ok (.bool a.isNone) w := fun w a n c n' c' => Lib.run_eql_slice_nil w _ _ a n c n' c' Tryz.underlying73
   have c3H : Hid (w.cell? ⟨P, 3, none⟩ = some (.slice (some ⟨R, 0, none⟩) all.length rc)) := c3
   have crH : Hid (w.cell? ⟨R, fr, none⟩ = some (.slice none 0 0)) := cr
   have hflI : (fr : Int) < (all.length : Int) := by omega
   have htlI : (up : Int) < (all.length : Int) := by omega
   have htlH : Hid (up < all.length) := htl
   generalize abvL all x.toList = row at *
   clear hok h3 hsp hax hay hv hfl htl
   go_enter Tryz.func95, Tryz.ntmps95
   go_wp2_with (first
    | (at_lookup; refine wpList_lookup_own_ok_int _ rfl _ _ 74 rfl 9 3 .i64 (string_keyed Tryz.underlying9) Tryz.underlying74 Tryz.underlying3 (Tryz.zeroValue3 _) M all.length D rfl hoM.out _ _ rfl hkx.out ?_; intro c hc hwc; rw [hyx.out] at hc; obtain rfl : (fr : Int) = c := (by simpa using hc); rw [hhx])
    | (at_lookup; refine wpList_lookup_own_ok_int _ rfl _ _ 74 rfl 9 3 .i64 (string_keyed Tryz.underlying9) Tryz.underlying74 Tryz.underlying3 (Tryz.zeroValue3 _) M all.length D rfl hoM.out _ _ rfl hky.out ?_; intro c hc hwc; rw [hyy.out] at hc; obtain rfl : (up : Int) = c := (by simpa using hc); rw [hhy]))
   go_region_with (go_at_call 133; refine (hRC.out _ (Below.refl _ _).drew).mono ?_; rintro e w1 ⟨mr, rfl, hHa, p3, r3, f3⟩)
   all_goals
    obtain ⟨d1, d2, d3, d4⟩ := hHa.fin (v := .slice (some ⟨mr, 0, none⟩) all.length all.length) hne.out hb0.out c3H.out crH.out htlH.out
    clear hHa p3 r3 f3 c2 c3 cr ff
    generalize w1.setCell ⟨R, fr, none⟩ (.slice (some ⟨mr, 0, none⟩) all.length all.length) = W9 at *
    go_wp2
    go_ret
    exact ⟨rfl, d4⟩
end Go.Proofs.YtjjccimeikkogaaGreatDoor
