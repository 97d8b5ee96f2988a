import Derived.Test.YtjjccimeikkogaaGreatDoorLkU
namespace Go.Proofs.YtjjccimeikkogaaGreatDoor
set_option linter.unusedVariables false
open Go.Maps Go.WideMaps
open Go.ChangeShapes Go.WideShapes Go.ChangeAt Go.RowKit Go.Shelf
theorem SpcAt.itd {w : World} {b0 P : Nat} {all : List ClassL} {av ov : Value} {M J R rc : Nat} {D : DataW Unit} (h : SpcAt w b0 P all av ov M J R rc D) (h0 : 0 < all.length) : ∃ CE : Nat → Array Value, ItD w w.heap.size P all av ov M J R rc D CE := by
 rcases h.all_ with ⟨_, e⟩ | ⟨b, off, c, rfl, hb, hx⟩
 ·rw [e] at h0; cases h0
 ·have hP := lt_of h.blk
  have hM : M < w.heap.size := by
   obtain ⟨es, clock, hb', rest⟩ := h.map
   exact lt_of hb'
  let CE : Nat → Array Value := fun k => if hk : k < all.length then (Classical.choose (hx k hk)).toArray else #[]
  have hCE : ∀ k (hk : k < all.length), (CE k).toList.length = 7 ∧ w.rangeAt b (off + k * 7) (CE k).toList ∧ ClsK w.heap.size w (CE k).toList all[k] := fun k hk => by
   have := Classical.choose_spec (hx k hk)
   simp only [CE, hk, dif_pos]
   exact this
  refine ⟨CE, ⟨_, h.blk⟩, ⟨b, off, c, rfl, hb, fun k hk => ⟨by have := (hCE k hk).1; simpa using this, (hCE k hk).2.1⟩⟩, fun k hk => ?_, h.map, h.num, hP, hM, Nat.le_refl _⟩
  obtain ⟨p, q, s, t, e, r⟩ := (hCE k hk).2.2
  refine ⟨p, q, s, t, ?_, r⟩
  have : (CE k).toList.toArray = #[.string (all[k]).name, .string (all[k]).super, p, .int .i64 (all[k]).flags, q, s, t] := by rw [e]
  simpa using this
end Go.Proofs.YtjjccimeikkogaaGreatDoor
