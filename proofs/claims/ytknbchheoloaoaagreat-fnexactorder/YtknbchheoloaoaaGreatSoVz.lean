/- Two acts in conflict, whole. -/
import Derived.Test.YtknbchheoloaoaaGreatSoV1
import Derived.Test.YtknbchheoloaoaaGreatSoV2
import Derived.Test.YtknbchheoloaoaaGreatSoV3
import Derived.Test.YtknbchheoloaoaaGreatSoV4
import Derived.Test.YtknbchheoloaoaaGreatSoV5
import Derived.Test.YtknbchheoloaoaaGreatSoV6
namespace Go.Proofs.YtknbchheoloaoaaGreat
set_option linter.unusedVariables false
open Go.ChangeShapes Go.WideShapes Go.ChangeAt Go.RowKit
theorem cconf_calls (x : LitL) (p q : DoneL) (a b : ActL) (g : Nat) (ta : Option Addr) (tc : Nat) (w : World) (lo hi : Nat) (hh : hi ≤ w.heap.size) (hx : ListAt ThrR 1 true lo hi w (.slice ta x.thr.length tc) x.thr) (hg : g < w.heap.size) (hc : w.rangeAt g 0 [.int .i64 x.vars, .int .i64 x.vol, .int .i64 x.locks, .slice ta x.thr.length tc]) (ha : actAt x p.t p.k = some a) (hb : actAt x q.t q.k = some b) (ka : a.kind = 1 ∨ a.kind = 2 ∨ a.kind = 3 ∨ a.kind = 4 ∨ a.kind = 5) (kb : b.kind = 1 ∨ b.kind = 2 ∨ b.kind = 3 ∨ b.kind = 4 ∨ b.kind = 5) :
  Calls Tryz.prog 58 #[.pointer (some ⟨g, 0, none⟩), .agg #[.int .i64 p.t, .int .i64 p.k], .agg #[.int .i64 q.t, .int .i64 q.k]] w fun e w' => e = .returned (.bool (raceC x p q)) ∧ Below w.heap.size w w' := by
 have hans : confP x p q a b = raceC x p q := by
  rw [← plain_conf ha hb ka kb]; rfl
 cases h0 : ((p.t : Int) != q.t) with
 | false => exact cconf1 x p q a b g ta tc w lo hi hh hx hg hc ha hb hans h0
 | true =>
  cases h1 : (!isL a && decide (x.vol ≤ a.var)) with
  | false => exact cconf2 x p q a b g ta tc w lo hi hh hx hg hc ha hb hans h0 h1
  | true =>
   cases h2 : (!isL b && decide (x.vol ≤ b.var)) with
   | false => exact cconf3 x p q a b g ta tc w lo hi hh hx hg hc ha hb hans h0 h1 h2
   | true =>
    cases h3 : (a.var == b.var) with
    | false => exact cconf4 x p q a b g ta tc w lo hi hh hx hg hc ha hb hans h0 h1 h2 h3
    | true =>
     cases h4 : isW a with
     | true => exact cconf5 x p q a b g ta tc w lo hi hh hx hg hc ha hb hans h0 h1 h2 h3 h4
     | false => exact cconf6 x p q a b g ta tc w lo hi hh hx hg hc ha hb hans h0 h1 h2 h3 h4
end Go.Proofs.YtknbchheoloaoaaGreat
