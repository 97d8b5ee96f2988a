/- impl.appendOperand, letter by letter. -/
import Derived.Test.YtcencddbdidjjaaGreatDoorOpN
import Derived.Test.YtcencddbdidjjaaGreatDoorQt
import Derived.Deep.RegionLaw
namespace Go.Proofs.YtcencddbdidjjaaGreatDoor
set_option linter.unusedVariables false
open Go.ChangeShapes Go.WideShapes Go.ChangeAt Go.RowKit

set_option maxRecDepth 1000000 in
set_option maxHeartbeats 4000000 in
theorem opF (o k a b : Int) (T C N Y : ByteArray) (ta : Option Addr) (tn tc : Nat) (v : Value) (ws : List (List UInt8)) (B : Nat) (w : World) (hw : WordsAt B w v ws) (hB : B ≤ w.heap.size) (hn : ws.length ≤ 1000) (h64 : B64 a) (he : Env w) (hk3 : (k == 3) = false) :
    Calls Tryz.prog 43 #[v, insV o k a b T C N Y (.slice ta tn tc), .int .i32 70] w fun e w' => ∃ v', e = .returned v' ∧ Wrk B w v (ws ++ [Lib.itoa a]) v' w' := by
  have hok : Hid (RegI B w ws v w.heap.size #[.int .i64 o, .int .i64 k, .int .i64 a, .int .i64 b, .string T, .string C, .string N, .string Y, .slice ta tn tc] (w.alloc (.cells #[.int .i64 o, .int .i64 k, .int .i64 a, .int .i64 b, .string T, .string C, .string N, .string Y, .slice ta tn tc] 27))) := RegI.start _ hw hB
  have hnH : Hid (ws.length ≤ 1073741000) := Nat.le_trans hn (by omega)
  have heH : Hid (∀ W, Below w.heap.size w W → Env W) := fun W hW => he.kept hW
  clear he
  clear hw hB hn
  go_enter Tryz.func43, Tryz.ntmps43
  go_wp2_with (first
      | (go_at_call 71; refine (number_calls a _ h64 (heH.out _ (by repeat (first | exact Below.refl _ _ | refine Below.drew ?_ | refine Below.alloc ?_ (by simp) _)))).mono ?_; rintro e W2 ⟨rfl, hb12⟩; have hok2 : Hid (RegI B w ws v w.heap.size #[.int .i64 o, .int .i64 k, .int .i64 a, .int .i64 b, .string T, .string C, .string N, .string Y, .slice ta tn tc] W2) := RegI.call (B := B) (w := w) (ws := ws) (v := v) (q := w.heap.size) (I := #[.int .i64 o, .int .i64 k, .int .i64 a, .int .i64 b, .string T, .string C, .string N, .string Y, .slice ta tn tc]) (by repeat (first | exact hok.out | refine RegI.drew ?_ | refine RegI.alloc ?_ _)) hb12; clear hb12)
      | (at_builtin; refine appX rfl _ _ _ rfl B w v v ws (Lib.itoa a) _ rfl rfl (by first | rfl | (simp; done) | (simp; rfl)) (by repeat (first | exact hok2.out.wrk | exact hok.out.wrk | refine Wrk.drew ?_ | refine Wrk.alloc ?_ _)) hnH.out ?_; intro v' w' hvH))
  all_goals (go_ret; exact ⟨_, rfl, hvH.out⟩)

set_option maxRecDepth 1000000 in
set_option maxHeartbeats 4000000 in
theorem opF3 (o a b : Int) (T C N Y : ByteArray) (ta : Option Addr) (tn tc : Nat) (v : Value) (ws : List (List UInt8)) (B : Nat) (w : World) (hw : WordsAt B w v ws) (hB : B ≤ w.heap.size) (hn : ws.length ≤ 1000) (h64 : B64 a) (he : Env w) :
    Calls Tryz.prog 43 #[v, insV o 3 a b T C N Y (.slice ta tn tc), .int .i32 70] w fun e w' => ∃ v', e = .returned v' ∧ Wrk B w v (ws ++ [showL a]) v' w' := by
  have hok : Hid (RegI B w ws v w.heap.size #[.int .i64 o, .int .i64 3, .int .i64 a, .int .i64 b, .string T, .string C, .string N, .string Y, .slice ta tn tc] (w.alloc (.cells #[.int .i64 o, .int .i64 3, .int .i64 a, .int .i64 b, .string T, .string C, .string N, .string Y, .slice ta tn tc] 27))) := RegI.start _ hw hB
  have hnH : Hid (ws.length ≤ 1073741000) := Nat.le_trans hn (by omega)
  have heH : Hid (∀ W, Below w.heap.size w W → Env W) := fun W hW => he.kept hW
  clear he
  clear hw hB hn
  go_enter Tryz.func43, Tryz.ntmps43
  go_wp2_with (first
      | (go_at_call 70; refine (implShow_calls a _ h64.lo h64.hi (heH.out _ (by repeat (first | exact Below.refl _ _ | refine Below.drew ?_ | refine Below.alloc ?_ (by simp) _)))).mono ?_; rintro e W2 ⟨rfl, hb12⟩; have hok2 : Hid (RegI B w ws v w.heap.size #[.int .i64 o, .int .i64 3, .int .i64 a, .int .i64 b, .string T, .string C, .string N, .string Y, .slice ta tn tc] W2) := RegI.call (B := B) (w := w) (ws := ws) (v := v) (q := w.heap.size) (I := #[.int .i64 o, .int .i64 3, .int .i64 a, .int .i64 b, .string T, .string C, .string N, .string Y, .slice ta tn tc]) (by repeat (first | exact hok.out | refine RegI.drew ?_ | refine RegI.alloc ?_ _)) hb12; clear hb12)
      | (at_builtin; refine appX rfl _ _ _ rfl B w v v ws (showL a) _ rfl rfl (by first | rfl | (simp; done) | (simp; rfl)) (by repeat (first | exact hok2.out.wrk | exact hok.out.wrk | refine Wrk.drew ?_ | refine Wrk.alloc ?_ _)) hnH.out ?_; intro v' w' hvH))
  all_goals (go_ret; exact ⟨_, rfl, hvH.out⟩)

set_option maxRecDepth 1000000 in
set_option maxHeartbeats 4000000 in
theorem opO3 (o a b : Int) (T C N Y : ByteArray) (ta : Option Addr) (tn tc : Nat) (v : Value) (ws : List (List UInt8)) (B : Nat) (w : World) (hw : WordsAt B w v ws) (hB : B ≤ w.heap.size) (hn : ws.length ≤ 1000) (h64 : B64 b) (he : Env w) :
    Calls Tryz.prog 43 #[v, insV o 3 a b T C N Y (.slice ta tn tc), .int .i32 79] w fun e w' => ∃ v', e = .returned v' ∧ Wrk B w v (ws ++ [Lib.itoa b]) v' w' := by
  have hok : Hid (RegI B w ws v w.heap.size #[.int .i64 o, .int .i64 3, .int .i64 a, .int .i64 b, .string T, .string C, .string N, .string Y, .slice ta tn tc] (w.alloc (.cells #[.int .i64 o, .int .i64 3, .int .i64 a, .int .i64 b, .string T, .string C, .string N, .string Y, .slice ta tn tc] 27))) := RegI.start _ hw hB
  have hnH : Hid (ws.length ≤ 1073741000) := Nat.le_trans hn (by omega)
  have heH : Hid (∀ W, Below w.heap.size w W → Env W) := fun W hW => he.kept hW
  clear he
  clear hw hB hn
  go_enter Tryz.func43, Tryz.ntmps43
  go_wp2_with (first
      | (go_at_call 71; refine (number_calls b _ h64 (heH.out _ (by repeat (first | exact Below.refl _ _ | refine Below.drew ?_ | refine Below.alloc ?_ (by simp) _)))).mono ?_; rintro e W2 ⟨rfl, hb12⟩; have hok2 : Hid (RegI B w ws v w.heap.size #[.int .i64 o, .int .i64 3, .int .i64 a, .int .i64 b, .string T, .string C, .string N, .string Y, .slice ta tn tc] W2) := RegI.call (B := B) (w := w) (ws := ws) (v := v) (q := w.heap.size) (I := #[.int .i64 o, .int .i64 3, .int .i64 a, .int .i64 b, .string T, .string C, .string N, .string Y, .slice ta tn tc]) (by repeat (first | exact hok.out | refine RegI.drew ?_ | refine RegI.alloc ?_ _)) hb12; clear hb12)
      | (at_builtin; refine appX rfl _ _ _ rfl B w v v ws (Lib.itoa b) _ rfl rfl (by first | rfl | (simp; done) | (simp; rfl)) (by repeat (first | exact hok2.out.wrk | exact hok.out.wrk | refine Wrk.drew ?_ | refine Wrk.alloc ?_ _)) hnH.out ?_; intro v' w' hvH))
  all_goals (go_ret; exact ⟨_, rfl, hvH.out⟩)
end Go.Proofs.YtcencddbdidjjaaGreatDoor
