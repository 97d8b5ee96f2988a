/- An act that leads to another, whole. -/
import Derived.Test.YtknbchheoloaoaaGreatSoVz
import Derived.Test.YtknbchheoloaoaaGreatSaC1
import Derived.Test.YtknbchheoloaoaaGreatSaC4
import Derived.Test.YtknbchheoloaoaaGreatSaC5
import Derived.Test.YtknbchheoloaoaaGreatSaC6
import Derived.Test.YtknbchheoloaoaaGreatSaC7
namespace Go.Proofs.YtknbchheoloaoaaGreat
set_option linter.unusedVariables false
open Go.ChangeShapes Go.WideShapes Go.ChangeAt Go.RowKit
theorem isW_isL {a : ActL} (h : isW a = true) : isL a = false := by
 simp only [isW, isL] at *
 rcases Decidable.em (a.kind = 2) with h1 | h1
 ·simp [h1]
 ·rcases Decidable.em (a.kind = 3) with h2 | h2
  ·simp [h2]
  ·simp [h1, h2] at h
theorem leads_calls (x : LitL) (p q : DoneL) (a b : ActL) (g : Nat) (ta : Option Addr) (tc : Nat) (w : World) (lo hi : Nat) (hh : hi ≤ w.heap.size) (hx : ListAt ThrR 1 true lo hi w (.slice ta x.thr.length tc) x.thr) (hg : g < w.heap.size) (hc : w.rangeAt g 0 [.int .i64 x.vars, .int .i64 x.vol, .int .i64 x.locks, .slice ta x.thr.length tc]) (ha : actAt x p.t p.k = some a) (hb : actAt x q.t q.k = some b) :
  Calls Tryz.prog 53 #[.pointer (some ⟨g, 0, none⟩), .agg #[.int .i64 p.t, .int .i64 p.k], .agg #[.int .i64 q.t, .int .i64 q.k]] w fun e w' => e = .returned (.bool (edgeB x.vol p q a b)) ∧ Below w.heap.size w w' := by
 cases h0 : ((p.t : Int) == q.t) with
 | true => exact lead1 x p q a b g ta tc w lo hi hh hx hg hc ha hb _ rfl h0
 | false =>
  cases h1 : (a.kind == 5) with
  | true =>
   cases h2 : (b.kind == 4) with
   | true => exact lead2 x p q a b g ta tc w lo hi hh hx hg hc ha hb _ rfl h0 h1 h2
   | false => exact lead3 x p q a b g ta tc w lo hi hh hx hg hc ha hb _ rfl h0 h1 h2
  | false =>
   cases h2 : isW a with
   | false => exact lead4 x p q a b g ta tc w lo hi hh hx hg hc ha hb _ rfl h0 h1 h2
   | true =>
    cases h3 : (b.kind == 1) with
    | false => exact lead5 x p q a b g ta tc w lo hi hh hx hg hc ha hb _ rfl h0 h1 h2 h3
    | true =>
     cases h4 : (a.var == b.var) with
     | false => exact lead6 x p q a b g ta tc w lo hi hh hx hg hc ha hb _ rfl h0 h1 h2 h3 h4
     | true =>
      refine lead7 x p q a b g ta tc w lo hi hh hx hg hc ha hb _ rfl h0 h1 h2 h3 h4 _ _ rfl rfl ?_
      rw [isW_isL h2]
      rcases Decidable.em (a.var < x.vol) with h | h
      ·rw [decide_eq_true h, decide_eq_false (by omega : ¬ x.vol ≤ a.var)]; rfl
      ·rw [decide_eq_false h, decide_eq_true (by omega : x.vol ≤ a.var)]; rfl
end Go.Proofs.YtknbchheoloaoaaGreat
