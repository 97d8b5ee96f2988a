/- The law of InsOk, walked: it answers true of every instruction. -/
import Derived.Test.YtkkfkbcdcdifdaaDoorJoin
import Derived.Test.YtkkfkbcdcdifdaaDoorLawC
import Derived.Deep.RegionHeld3
namespace Go.Proofs.YtkkfkbcdcdifdaaDoor
set_option linter.unusedVariables false
open Go.ChangeShapes Go.WideShapes Go.ChangeAt Go.RowKit

theorem startT {t : TypeId} {o k a b : Int} {T C N Y : ByteArray} {v : Value} {w W : World} (hW : W = w.alloc (.cells #[.int .i64 o, .int .i64 k, .int .i64 a, .int .i64 b, .string T, .string C, .string N, .string Y, v] t)) :
    W.cell? ⟨w.heap.size, 0, none⟩ = some (.int .i64 o) ∧ W.cell? ⟨w.heap.size, 1, none⟩ = some (.int .i64 k) ∧ W.cell? ⟨w.heap.size, 2, none⟩ = some (.int .i64 a) ∧ W.cell? ⟨w.heap.size, 3, none⟩ = some (.int .i64 b) ∧ W.cell? ⟨w.heap.size, 4, none⟩ = some (.string T) ∧ W.cell? ⟨w.heap.size, 5, none⟩ = some (.string C) ∧ W.cell? ⟨w.heap.size, 6, none⟩ = some (.string N) ∧ W.cell? ⟨w.heap.size, 7, none⟩ = some (.string Y) ∧ W.cell? ⟨w.heap.size, 8, none⟩ = some v := by
  have h1 : W.heap[w.heap.size]? = some (.cells #[.int .i64 o, .int .i64 k, .int .i64 a, .int .i64 b, .string T, .string C, .string N, .string Y, v] t) := by rw [hW]; exact heap_alloc_last w _
  refine ⟨?_, ?_, ?_, ?_, ?_, ?_, ?_, ?_, ?_⟩ <;> simp [World.cell?, h1]
theorem keepII {B X : Nat} {o k a b : Int} {T C N Y : ByteArray} {u v : Value} {W W' : World}
    (h : W.cell? ⟨B, 0, none⟩ = some (.int .i64 o) ∧ W.cell? ⟨B, 1, none⟩ = some (.int .i64 k) ∧ W.cell? ⟨B, 2, none⟩ = some (.int .i64 a) ∧ W.cell? ⟨B, 3, none⟩ = some (.int .i64 b) ∧ W.cell? ⟨B, 4, none⟩ = some (.string T) ∧ W.cell? ⟨B, 5, none⟩ = some (.string C) ∧ W.cell? ⟨B, 6, none⟩ = some (.string N) ∧ W.cell? ⟨B, 7, none⟩ = some (.string Y) ∧ W.cell? ⟨B, 8, none⟩ = some u ∧ W.cell? ⟨X, 0, none⟩ = some (.int .i64 o) ∧ W.cell? ⟨X, 1, none⟩ = some (.int .i64 k) ∧ W.cell? ⟨X, 2, none⟩ = some (.int .i64 a) ∧ W.cell? ⟨X, 3, none⟩ = some (.int .i64 b) ∧ W.cell? ⟨X, 4, none⟩ = some (.string T) ∧ W.cell? ⟨X, 5, none⟩ = some (.string C) ∧ W.cell? ⟨X, 6, none⟩ = some (.string N) ∧ W.cell? ⟨X, 7, none⟩ = some (.string Y) ∧ W.cell? ⟨X, 8, none⟩ = some v)
    (hb : Below W.heap.size W W') : W'.cell? ⟨B, 0, none⟩ = some (.int .i64 o) ∧ W'.cell? ⟨B, 1, none⟩ = some (.int .i64 k) ∧ W'.cell? ⟨B, 2, none⟩ = some (.int .i64 a) ∧ W'.cell? ⟨B, 3, none⟩ = some (.int .i64 b) ∧ W'.cell? ⟨B, 4, none⟩ = some (.string T) ∧ W'.cell? ⟨B, 5, none⟩ = some (.string C) ∧ W'.cell? ⟨B, 6, none⟩ = some (.string N) ∧ W'.cell? ⟨B, 7, none⟩ = some (.string Y) ∧ W'.cell? ⟨B, 8, none⟩ = some u ∧ W'.cell? ⟨X, 0, none⟩ = some (.int .i64 o) ∧ W'.cell? ⟨X, 1, none⟩ = some (.int .i64 k) ∧ W'.cell? ⟨X, 2, none⟩ = some (.int .i64 a) ∧ W'.cell? ⟨X, 3, none⟩ = some (.int .i64 b) ∧ W'.cell? ⟨X, 4, none⟩ = some (.string T) ∧ W'.cell? ⟨X, 5, none⟩ = some (.string C) ∧ W'.cell? ⟨X, 6, none⟩ = some (.string N) ∧ W'.cell? ⟨X, 7, none⟩ = some (.string Y) ∧ W'.cell? ⟨X, 8, none⟩ = some v := by
  obtain ⟨h1, h2, h3, h4, h5, h6, h7, h8, h9, g1, g2, g3, g4, g5, g6, g7, g8, g9⟩ := h
  have k : ∀ (p : Addr) (v : Value), W.cell? p = some v → W'.cell? p = some v := fun p v hv => keep1 hv hb
  exact ⟨k _ _ h1, k _ _ h2, k _ _ h3, k _ _ h4, k _ _ h5, k _ _ h6, k _ _ h7, k _ _ h8, k _ _ h9, k _ _ g1, k _ _ g2, k _ _ g3, k _ _ g4, k _ _ g5, k _ _ g6, k _ _ g7, k _ _ g8, k _ _ g9⟩

set_option maxRecDepth 1000000 in
set_option maxHeartbeats 4000000 in
theorem lawIns_calls (o k a b size locals : Int) (T C N Y : ByteArray) (v : Value) (zs : List Int) (w : World) (ht : TabIn w v zs) (hz : zs.length ≤ 9223372036854775807)
    (ha1 : -9223372036854775808 ≤ a) (ha2 : a < 9223372036854775808) (hT : T.size ≤ 9223372036854775807) (hC : C.size ≤ 9223372036854775807) (hN : N.size ≤ 9223372036854775807) (hY : Y.size ≤ 9223372036854775807) (hsh : w.ShapedOpen Tryd.prog) :
    Calls Tryd.prog 3 #[insV o k a b T C N Y v, .int .i64 size, .int .i64 locals] w fun e w' => e = .returned (.bool true) ∧ Below w.heap.size w w' := by
  have htH : Hid (∀ W, Below w.heap.size w W → TabIn W v zs) := fun W hW => ht.kept hW
  have hshH : Hid (∀ W, Below w.heap.size w W → W.ShapedOpen Tryd.prog) := fun W hW => shaped_below hsh hW
  obtain ⟨ta, c, hv⟩ := ht.form
  subst hv
  obtain ⟨n, hn⟩ : ∃ n, n = zs.length := ⟨_, rfl⟩
  have hnH : Hid (n = zs.length) := hn
  rw [← hn] at htH hz ⊢
  clear ht hsh hn
  go_enter Tryd.func3, Tryd.ntmps3
  go_wp2_with fail
  obtain ⟨W, hW⟩ : ∃ W : World, W = w.alloc (.cells #[.int .i64 o, .int .i64 k, .int .i64 a, .int .i64 b, .string T, .string C, .string N, .string Y, .slice ta n c] 24) := ⟨_, rfl⟩
  rw [← hW]
  have hbW : Below w.heap.size w W := by rw [hW]; exact below1 _ _
  have hS := startT hW
  clear hW
  refine (szIns_calls o k a b T C N Y ta n c W hT hC hN hY hz).mono ?_
  rintro e w1 ⟨⟨r, rfl, hr⟩, hb1⟩
  have hB1 : Hid (Below w.heap.size w w1) := below_below hbW hb1
  have hS1 := keepI hS hb1
  obtain ⟨s0, s1, s2, s3, s4, s5, s6, s7, s8⟩ := hS1
  have hrH : Hid (r < 0 ∨ T.size + C.size + N.size + Y.size + n ≤ 1048576) := hr
  clear hS hbW hb1 hr
  by_cases hr0 : r < 0
  · go_wp2
    go_ret
    exact ⟨rfl, hB1.out⟩
  have htot : T.size + C.size + N.size + Y.size + n ≤ 1048576 := by rcases hrH.out with h | h <;> omega
  have hsH : Hid (T.size ≤ 1048576 ∧ C.size ≤ 1048576 ∧ N.size ≤ 1048576 ∧ Y.size ≤ 1048576 ∧ zs.length ≤ 1048576) := ⟨by omega, by omega, by omega, by omega, by rw [← hnH.out]; omega⟩
  clear hrH htot hT hC hN hY hz
  go_wp2_with fail
  refine (toIns_calls o k a b T C N Y _ zs w1 (htH.out _ hB1.out) hsH.out.2.2.2.2).mono ?_
  rintro e w2 ⟨u2, rfl, htab2, hb2⟩
  have hB2 : Hid (Below w.heap.size w w2) := below_below hB1.out hb2
  have hS2 := keepI ⟨s0, s1, s2, s3, s4, s5, s6, s7, s8⟩ hb2
  clear s0 s1 s2 s3 s4 s5 s6 s7 s8
  obtain ⟨s0, s1, s2, s3, s4, s5, s6, s7, s8⟩ := hS2
  have htab2H : Hid (Tab w2 u2 zs) := htab2
  clear htab2 hb2 hB1
  go_wp2_with fail
  refine (specIns_calls o k a b size locals T C N Y u2 zs w2 htab2H.out hsH.out.2.2.2.2 hsH.out.1 hsH.out.2.1 hsH.out.2.2.1 hsH.out.2.2.2.1).mono ?_
  rintro e w3 ⟨rfl, hb3⟩
  have hB3 : Hid (Below w.heap.size w w3) := below_below hB2.out hb3
  have hS3 := keepI ⟨s0, s1, s2, s3, s4, s5, s6, s7, s8⟩ hb3
  clear s0 s1 s2 s3 s4 s5 s6 s7 s8
  obtain ⟨s0, s1, s2, s3, s4, s5, s6, s7, s8⟩ := hS3
  clear hb3 hB2 htab2H
  obtain ⟨x, hx⟩ : ∃ x, insB o k a b T C N Y zs size locals = x := ⟨_, rfl⟩
  rw [hx]
  have hxH : Hid (insB o k a b T C N Y zs size locals = x) := hx
  clear hx
  go_wp2_with fail
  refine (toIns_calls o k a b T C N Y _ zs w3 (htH.out _ hB3.out) hsH.out.2.2.2.2).mono ?_
  rintro e w4 ⟨u4, rfl, htab4, hb4⟩
  have hB4 : Hid (Below w.heap.size w w4) := below_below hB3.out hb4
  have hS4 := keepI ⟨s0, s1, s2, s3, s4, s5, s6, s7, s8⟩ hb4
  clear s0 s1 s2 s3 s4 s5 s6 s7 s8
  obtain ⟨s0, s1, s2, s3, s4, s5, s6, s7, s8⟩ := hS4
  obtain ⟨ua, uc, hu⟩ := htab4.form
  subst hu
  rw [← hnH.out] at htab4 ⊢
  have htab4H : Hid (Tab w4 (.slice ua n uc) zs) := htab4
  clear htab4 hb4 hB3
  go_wp2_with fail
  obtain ⟨V, hV⟩ : ∃ V : World, V = w4.alloc (.cells #[.int .i64 o, .int .i64 k, .int .i64 a, .int .i64 b, .string T, .string C, .string N, .string Y, .slice ua n uc] 27) := ⟨_, rfl⟩
  rw [← hV]
  have hbV : Below w4.heap.size w4 V := by rw [hV]; exact below1 _ _
  have hBV : Below w.heap.size w V := below_below hB4.out hbV
  have hSV := startT hV
  have hSW := keepI ⟨s0, s1, s2, s3, s4, s5, s6, s7, s8⟩ hbV
  clear s0 s1 s2 s3 s4 s5 s6 s7 s8 hV
  refine (implIns_calls o k a b size locals T C N Y _ zs V (htab4H.out.kept hbV) hsH.out.2.2.2.2 ha1 ha2 hsH.out.1 hsH.out.2.1 hsH.out.2.2.1 hsH.out.2.2.2.1 (hshH.out V hBV)).mono ?_
  rintro e w6 ⟨rfl, hb6⟩
  rw [hxH.out]
  have hB6 : Hid (Below w.heap.size w w6) := below_below hBV hb6
  have htab6 : Hid (Tab w6 (.slice ua n uc) zs) := (htab4H.out.kept hbV).kept hb6
  have hS6 := keepI hSW hb6
  have hX6 := keepI hSV hb6
  clear hSW hSV hb6 hBV hbV htab4H hB4 hxH hshH
  generalize w4.heap.size = X at *
  have hxx : (x != x) = false := by simp
  obtain ⟨s0, s1, s2, s3, s4, s5, s6, s7, s8⟩ := hS6
  obtain ⟨x0, x1, x2, x3, x4, x5, x6, x7, x8⟩ := hX6
  go_wp2_with fail
  have htK : Hid (∀ W, Below w6.heap.size w6 W → TabIn W (.slice ta n c) zs) := fun W hW => htH.out _ (below_below hB6.out hW)
  go_region_held3 (fun W' => W'.cell? ⟨w.heap.size, 0, none⟩ = some (.int .i64 o) ∧ W'.cell? ⟨w.heap.size, 1, none⟩ = some (.int .i64 k) ∧ W'.cell? ⟨w.heap.size, 2, none⟩ = some (.int .i64 a) ∧ W'.cell? ⟨w.heap.size, 3, none⟩ = some (.int .i64 b) ∧ W'.cell? ⟨w.heap.size, 4, none⟩ = some (.string T) ∧ W'.cell? ⟨w.heap.size, 5, none⟩ = some (.string C) ∧ W'.cell? ⟨w.heap.size, 6, none⟩ = some (.string N) ∧ W'.cell? ⟨w.heap.size, 7, none⟩ = some (.string Y) ∧ W'.cell? ⟨w.heap.size, 8, none⟩ = some (.slice ta n c) ∧ W'.cell? ⟨X, 0, none⟩ = some (.int .i64 o) ∧ W'.cell? ⟨X, 1, none⟩ = some (.int .i64 k) ∧ W'.cell? ⟨X, 2, none⟩ = some (.int .i64 a) ∧ W'.cell? ⟨X, 3, none⟩ = some (.int .i64 b) ∧ W'.cell? ⟨X, 4, none⟩ = some (.string T) ∧ W'.cell? ⟨X, 5, none⟩ = some (.string C) ∧ W'.cell? ⟨X, 6, none⟩ = some (.string N) ∧ W'.cell? ⟨X, 7, none⟩ = some (.string Y) ∧ W'.cell? ⟨X, 8, none⟩ = some (.slice ua n uc)) (first | go_keep | (refine keepII (by assumption) (by assumption))) (first | (go_at_call 7; refine (toIns_calls o k a b T C N Y _ zs _ (htK.out _ (by first | exact Below.refl _ _ | exact belowR (Below.refl _ _))) hsH.out.2.2.2.2).mono ?_; rintro e7 w7 ⟨u7, rfl, htab7, hb7⟩) | (go_at_call 9; refine (eqIns_calls o k a b T C N Y _ _ zs _ (htab6.out.kept (by first | exact hb7 | exact belowL hb7)) htab7 hsH.out.2.2.2.2).mono ?_; rintro e8 w8 ⟨rfl, hb8⟩))
  go_wp2
  go_ret
  exact ⟨rfl, below_below (below_below hB6.out (by first | exact hb7 | exact belowL hb7)) hb8⟩
end Go.Proofs.YtkkfkbcdcdifdaaDoor
