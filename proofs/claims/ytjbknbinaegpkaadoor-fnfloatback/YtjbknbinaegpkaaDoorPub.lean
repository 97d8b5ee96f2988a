/- strconv.ParseUint at 53 bits and strconv.ParseInt at 16 bits, whatever the text: a number and no error, or an error. -/
import Derived.Test.YtjbknbinaegpkaaDoorPu
import Derived.Test.YtjbknbinaegpkaaDoorImpl2
namespace Go.Proofs.YtjbknbinaegpkaaDoor
set_option linter.unusedVariables false
open Go.Shelf Go.RowKit

theorem shaped_below {w w' : World} (h : w.ShapedOpen Tryd.prog) (hb : Below w.heap.size w w') : w'.ShapedOpen Tryd.prog :=
  h.keptBut (hb.frame (fun _ => False)) (fun _ f => f.elim)

/-- What the walks need of the library's variables. -/
structure EnvR (W : World) : Prop where
  tab : Env W
  syn : ∃ te pe, W.cell? ⟨3, 0, none⟩ = some (.iface te pe)
  rng : ∃ te pe, W.cell? ⟨4, 0, none⟩ = some (.iface te pe)
  shp : W.ShapedOpen Tryd.prog
theorem EnvR.kept {W W' : World} (h : EnvR W) (hb : Below W.heap.size W W') : EnvR W' := by
  obtain ⟨te, pe, h2⟩ := h.syn
  obtain ⟨tr, pr, h3⟩ := h.rng
  exact ⟨h.tab.kept hb, ⟨te, pe, (hb.cell (show (⟨3, 0, none⟩ : Addr).block < W.heap.size from Lib.lt_of_cell h2)).trans h2⟩, ⟨tr, pr, (hb.cell (show (⟨4, 0, none⟩ : Addr).block < W.heap.size from Lib.lt_of_cell h3)).trans h3⟩, shaped_below h.shp hb⟩

theorem inner53 (t : ByteArray) (hmax : t.size ≤ 9223372036854775806) (w : World) :
    Calls Tryd.prog 49 #[.string t, .int .i64 10, .int .i64 53] w fun e w' => e = .returned (Lib.uintTupleM 84 9007199254740991 (Lib.parseUintB 53 t.data.toList)) ∧ Below w.heap.size w w' := by
  have eM : (2 : Nat) ^ 53 - 1 = 9007199254740991 := by decide
  by_cases h0 : t.size = 0
  · have ht : t = ⟨#[]⟩ := by
      apply ByteArray.ext
      exact Array.eq_empty_of_size_eq_zero h0
    subst ht
    exact (AnyPu.internal_strconv_ParseUint_empty { Tryd.laysPu14 with } 10 53 w).mono fun e w' ⟨he, hw⟩ => ⟨he, by rw [hw]; exact Below.refl _ _⟩
  · have hne : t.data.toList ≠ [] := fun h => h0 (by rw [Lib.size_eq, h]; rfl)
    refine (inner_row (P := Tryd.prog) (ρ := Tryd.laysPu14_ren) { Tryd.laysPu14 with } t h0 hmax w).mono fun e w' ⟨he, hw⟩ => ⟨?_, by rw [hw]; exact Lib.bytesWorld_below _ _ _⟩
    rw [he, Lib.parseUintB, if_neg hne, eM]; rfl

set_option maxHeartbeats 4000000 in
set_option maxRecDepth 100000 in
theorem pu_ok (s : ByteArray) (hs : s.size ≤ 281474976710656) (u : Nat) (h : Lib.parseUintB 53 s.data.toList = .ok u) (w : World) :
    Calls Tryd.prog 35 #[.string s, .int .i64 10, .int .i64 53] w fun e w' => e = .returned (.tuple #[.int .u64 u, .nilIface]) ∧ Below w.heap.size w w' := by
  have hI := inner53 s (by omega) w
  rw [h] at hI
  have hI : Hid (Calls Tryd.prog 49 #[.string s, .int .i64 10, .int .i64 53] w fun e w' => e = .returned (.tuple #[.int .u64 u, .nilIface]) ∧ Below w.heap.size w w') := hI
  clear h
  go_enter Tryd.func35, Tryd.ntmps35
  go_wp2_with (go_at_call 49; refine hI.out.mono ?_; rintro e W1 ⟨rfl, hW⟩)
  go_ret2
  exact ⟨rfl, hW⟩

set_option maxHeartbeats 4000000 in
set_option maxRecDepth 100000 in
theorem pu_bad (s : ByteArray) (hs : s.size ≤ 281474976710656) (h : ∀ u, Lib.parseUintB 53 s.data.toList ≠ .ok u) (w : World) (he : EnvR w) :
    Calls Tryd.prog 35 #[.string s, .int .i64 10, .int .i64 53] w fun e w' => ∃ x N, e = .returned (.tuple #[.int .u64 x, .iface 87 (.pointer (some ⟨N, 0, none⟩))]) ∧ Below w.heap.size w w' := by
  have hI := inner53 s (by omega) w
  obtain ⟨te, pe, h2⟩ := he.syn
  obtain ⟨tr, pr, h3⟩ := he.rng
  cases hq : Lib.parseUintB 53 s.data.toList with
  | ok u => exact absurd hq (h u)
  | «syntax» =>
    rw [hq] at hI
    have hI : Hid (Calls Tryd.prog 49 #[.string s, .int .i64 10, .int .i64 53] w fun e w' => e = .returned (.tuple #[.int .u64 0, .iface 84 (.int .i64 2)]) ∧ Below w.heap.size w w') := hI
    have hG := Lib.lt_of_cell h2
    have h2H : Hid (w.cell? ⟨3, 0, none⟩ = some (.iface te pe) ∧ (⟨3, 0, none⟩ : Addr).block < w.heap.size) := ⟨h2, hG⟩
    clear h he h2 h3 hq hG
    go_enter Tryd.func35, Tryd.ntmps35
    go_wp2_with (first | (go_at_call 49; refine hI.out.mono ?_; rintro e W1 ⟨rfl, hW⟩) | (go_at_call 50; fail))
    refine (AnyPu.strconv_toError_syntax (P := Tryd.prog) (ρ := Tryd.laysPu14_ren) { Tryd.laysPu14 with } _ s 10 53 (.iface te pe) _ hs ((hW.cell h2H.out.2).trans h2H.out.1) (.inr ⟨te, pe, rfl⟩)).mono ?_
    rintro e W2 ⟨N, rfl, g1, g2, g3⟩
    go_wp2
    go_ret2
    exact ⟨_, N, rfl, hW.trans (g3.mono hW.size)⟩
  | range =>
    rw [hq] at hI
    have hI : Hid (Calls Tryd.prog 49 #[.string s, .int .i64 10, .int .i64 53] w fun e w' => e = .returned (.tuple #[.int .u64 9007199254740991, .iface 84 (.int .i64 1)]) ∧ Below w.heap.size w w') := hI
    have hG := Lib.lt_of_cell h3
    have h2H : Hid (w.cell? ⟨4, 0, none⟩ = some (.iface tr pr) ∧ (⟨4, 0, none⟩ : Addr).block < w.heap.size) := ⟨h3, hG⟩
    clear h he h2 h3 hq hG
    go_enter Tryd.func35, Tryd.ntmps35
    go_wp2_with (first | (go_at_call 49; refine hI.out.mono ?_; rintro e W1 ⟨rfl, hW⟩) | (go_at_call 50; fail))
    refine (AnyPu.strconv_toError_range (P := Tryd.prog) (ρ := Tryd.laysPu14_ren) { Tryd.laysPu14 with } _ s 10 53 (.iface tr pr) _ hs ((hW.cell h2H.out.2).trans h2H.out.1) (.inr ⟨tr, pr, rfl⟩)).mono ?_
    rintro e W2 ⟨N, rfl, g1, g2, g3⟩
    go_wp2
    go_ret2
    exact ⟨_, N, rfl, hW.trans (g3.mono hW.size)⟩

theorem pi_ok (s : ByteArray) (hs : s.size ≤ 281474976710656) (v : Int) (h : Lib.parseIntB 16 s.data.toList = .ok v) (w : World) :
    Calls Tryd.prog 36 #[.string s, .int .i64 10, .int .i64 16] w fun e w' => e = .returned (.tuple #[.int .i64 v, .nilIface]) ∧ Below w.heap.size w w' := by
  refine (Tryd.strconv_ParseInt_10_at16_ok s (by omega) v h w).mono ?_
  rintro e w' ⟨he, hw⟩
  refine ⟨he, ?_⟩
  rcases hw with rfl | ⟨t, rfl⟩
  · exact Below.refl _ _
  · exact Lib.bytesWorld_below _ _ _
theorem pi_bad (s : ByteArray) (hs : s.size ≤ 281474976710656) (h : ∀ u, Lib.parseIntB 16 s.data.toList ≠ .ok u) (w : World) (he : EnvR w) :
    Calls Tryd.prog 36 #[.string s, .int .i64 10, .int .i64 16] w fun e w' => ∃ x N, e = .returned (.tuple #[.int .i64 x, .iface 87 (.pointer (some ⟨N, 0, none⟩))]) ∧ Below w.heap.size w w' := by
  obtain ⟨te, pe, h2⟩ := he.syn
  obtain ⟨tr, pr, h3⟩ := he.rng
  cases hq : Lib.parseIntB 16 s.data.toList with
  | ok u => exact absurd hq (h u)
  | «syntax» =>
    refine (Tryd.strconv_ParseInt_10_at16_syntax s hs hq _ w h2 (.inr ⟨te, pe, rfl⟩)).mono ?_
    rintro e w' ⟨N, he, g1, g2, g3⟩
    exact ⟨_, N, he, g3⟩
  | range =>
    refine (Tryd.strconv_ParseInt_10_at16_range s hs hq _ w h3 (.inr ⟨tr, pr, rfl⟩)).mono ?_
    rintro e w' ⟨N, he, g1, g2, g3⟩
    exact ⟨_, N, he, g3⟩
end Go.Proofs.YtjbknbinaegpkaaDoor
