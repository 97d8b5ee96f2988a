/- The specification's heap: the roots shaded; steps. -/
import Derived.Test.YtcigiilhlealdaaKsB
namespace Go.Proofs.Ytcigiilhlealdaa
set_option linter.unusedVariables false
open Go.ChangeShapes Go.WideShapes Go.ChangeAt Go.RowKit

theorem row_len {row : List Int} {obs : List ObM} (hn : row.Nodup) (hr : ∀ z ∈ row, ∃ o, getM obs z = some o) : row.length ≤ obs.length := by
  have := nodup_lenN (m := (List.range obs.length).map fun (i : Nat) => (i : Int) + 1) hn fun z hz => by
    obtain ⟨o, ho⟩ := hr z hz
    have := getM_le ho
    exact List.mem_map.2 ⟨z.toNat - 1, by simp; omega, by omega⟩
  simpa using this
theorem InvM.rowlen {s : StM} (h : InvM s) : s.row.length ≤ s.obs.length := row_len h.nd fun z hz => by
  obtain ⟨o, ho, _⟩ := (h.gr z).1 hz
  exact ⟨o, ho⟩
theorem InvZ.rowlen {s : StM} {z : Int} (h : InvZ s z) : s.row.length ≤ s.obs.length := row_len h.nd fun y hy => by
  obtain ⟨o, ho, _⟩ := (h.gr y).1 (.inl hy)
  exact ⟨o, ho⟩
theorem shades_snoc (s : StM) (zs : List Int) (z : Int) : s.shades (zs ++ [z]) = (s.shades zs).shade z := by rw [shades_append]; rfl
theorem take_snoc {zs : List Int} {m : Nat} (h : m < zs.length) : zs.take (m + 1) = zs.take m ++ [zs[m]] := by rw [List.take_add_one, List.getElem?_eq_getElem h]; rfl
theorem intsV_cell {zs : List Int} {j : Nat} (h : j < zs.length) : (intsV zs).toArray[j]? = some (.int .i64 zs[j]) := by simp [intsV, h]
set_option maxRecDepth 100000 in
set_option maxHeartbeats 1000000 in
theorem roots_calls (w : World) (F : Nat → Prop) (H : Nat) (s : StM) (ps fs : List Nat) (ov : Value) (R : Nat) (qv : Value) (h : SpW w F H s ps fs ov R qv) (hi : InvM s) (hl : s.obs.length ≤ 400) :
    Calls Try.prog 77 #[.pointer (some ⟨H, 0, none⟩)] w fun e w' => e = .returned (.tuple #[]) ∧ (∃ qv', SpW w' F H (s.shades s.roots) ps fs ov R qv') ∧ Keep F w w' := by
  have hH : Hid (SpW w F H s ps fs ov R qv) := h
  have hiH : Hid (InvM s) := hi
  have hr8 : Hid (s.roots.length = 8) := hi.rl
  clear h hi
  go_enter Try.func77, Try.ntmps77
  go_wp2
  go_loopw [2] (fun i wr => ∃ (m : Nat) (qv : Value), m ≤ 8 ∧ i = .int .i64 m ∧ Hid (SpW wr F H (s.shades (s.roots.take m)) ps fs ov R qv) ∧ Hid (Keep F w wr)) (fun i _ => 8 - (intOf i).toNat)
  case atStart => exact ⟨0, qv, by omega, rfl, by simpa [shades_nil] using hH, Keep.refl _ _⟩
  case round =>
    obtain ⟨m, qv, hm, rfl, hS, hB⟩ := hrel
    have hm0 : (0 : Int) ≤ m := by omega
    have k2 : wr.cell? ⟨H, 2, none⟩ = some (.slice (some ⟨R, 0, none⟩) 8 8) := cell_of hS.out.blk rfl
    have hfr := shades_frame s (s.roots.take m)
    have hI : Hid (InvM (s.shades (s.roots.take m))) := hiH.out.shades _
    by_cases hlt : m < 8
    · have hlt' : (m : Int) < 8 := by omega
      have hml : m < s.roots.length := by rw [hr8.out]; exact hlt
      have kR : wr.cell? ⟨R, m, none⟩ = some (.int .i64 s.roots[m]) := by
        have h1 := hS.out.rt
        rw [hfr.2.1] at h1
        exact cell_of h1 (intsV_cell hml)
      have hsh : Hid (Calls Try.prog 76 #[.pointer (some ⟨H, 0, none⟩), .int .i64 s.roots[m]] wr fun e w' => e = .returned (.tuple #[]) ∧ (∃ qv', SpW w' F H ((s.shades (s.roots.take m)).shade s.roots[m]) ps fs ov R qv') ∧ Keep F wr w') := shade_calls wr F H _ ps fs ov R qv _ hS.out (by rw [hfr.2.2.2]; exact hl) (by have := hI.out.rowlen; rw [hfr.2.2.2] at this; omega)
      have hE : Hid ((s.shades (s.roots.take m)).shade s.roots[m] = s.shades (s.roots.take (m + 1))) := by show _ = _; rw [take_snoc hml, shades_snoc]
      rw [hE.out] at hsh
      generalize s.roots[m] = z at *
      clear hS hI hfr hE
      go_wp2_with (go_at_call 76; refine (show Calls _ _ _ _ _ from hsh.out).mono ?_; rintro e w1 ⟨rfl, ⟨qv', hS1⟩, hB1⟩; have hS1H : Hid (SpW w1 F H (s.shades (s.roots.take (m + 1))) ps fs ov R qv') := hS1; have hB2 : Hid (Keep F w w1) := hB.out.trans hB1; clear hS1 hB1)
      go_roundw
      case rel => exact ⟨m + 1, qv', by omega, by go_num, hS1H, hB2⟩
      case measure => simp [intOf]; omega
    · have hge : ¬ ((m : Int) < 8) := by omega
      have hfin : Hid (SpW wr F H (s.shades s.roots) ps fs ov R qv) := by
        have h1 := hS.out
        rw [List.take_of_length_le (by rw [hr8.out]; omega)] at h1
        exact h1
      clear hS hI hfr
      go_wp2
      first | (refine bodyPost_ret (results_none rfl _ _ _) rfl ?_) | go_end0
      exact ⟨rfl, ⟨qv, hfin.out⟩, hB.out⟩
end Go.Proofs.Ytcigiilhlealdaa
