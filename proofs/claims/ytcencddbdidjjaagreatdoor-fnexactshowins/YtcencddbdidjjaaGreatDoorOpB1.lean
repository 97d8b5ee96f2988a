/- impl.appendOperand, letter by letter. -/
import Derived.Test.YtcencddbdidjjaaGreatDoorOpN
import Derived.Test.YtcencddbdidjjaaGreatDoorQt
import Derived.Deep.RegionLaw
namespace Go.Proofs.YtcencddbdidjjaaGreatDoor
set_option linter.unusedVariables false
open Go.ChangeShapes Go.WideShapes Go.ChangeAt Go.RowKit

set_option maxRecDepth 1000000 in
set_option maxHeartbeats 4000000 in
theorem opC (o k a b : Int) (T C N Y : ByteArray) (ta : Option Addr) (tn tc : Nat) (v : Value) (ws : List (List UInt8)) (B : Nat) (w : World) (hw : WordsAt B w v ws) (hB : B ≤ w.heap.size) (hn : ws.length ≤ 1000) :
    Calls Tryz.prog 43 #[v, insV o k a b T C N Y (.slice ta tn tc), .int .i32 67] w fun e w' => ∃ v', e = .returned v' ∧ Wrk B w v (ws ++ [C.data.toList]) v' w' := by
  have hok : Hid (RegI B w ws v w.heap.size #[.int .i64 o, .int .i64 k, .int .i64 a, .int .i64 b, .string T, .string C, .string N, .string Y, .slice ta tn tc] (w.alloc (.cells #[.int .i64 o, .int .i64 k, .int .i64 a, .int .i64 b, .string T, .string C, .string N, .string Y, .slice ta tn tc] 27))) := RegI.start _ hw hB
  have hnH : Hid (ws.length ≤ 1073741000) := Nat.le_trans hn (by omega)
  clear hw hB hn
  go_enter Tryz.func43, Tryz.ntmps43
  go_wp2_with (first
      | (at_builtin; refine appX rfl _ _ _ rfl B w v v ws (C.data.toList) _ rfl rfl (by first | rfl | (simp; done) | (simp; rfl)) (by repeat (first | exact hok2.out.wrk | exact hok.out.wrk | refine Wrk.drew ?_ | refine Wrk.alloc ?_ _)) hnH.out ?_; intro v' w' hvH))
  all_goals (go_ret; exact ⟨_, rfl, hvH.out⟩)

set_option maxRecDepth 1000000 in
set_option maxHeartbeats 4000000 in
theorem opM (o k a b : Int) (T C N Y : ByteArray) (ta : Option Addr) (tn tc : Nat) (v : Value) (ws : List (List UInt8)) (B : Nat) (w : World) (hw : WordsAt B w v ws) (hB : B ≤ w.heap.size) (hn : ws.length ≤ 1000) :
    Calls Tryz.prog 43 #[v, insV o k a b T C N Y (.slice ta tn tc), .int .i32 77] w fun e w' => ∃ v', e = .returned v' ∧ Wrk B w v (ws ++ [N.data.toList]) v' w' := by
  have hok : Hid (RegI B w ws v w.heap.size #[.int .i64 o, .int .i64 k, .int .i64 a, .int .i64 b, .string T, .string C, .string N, .string Y, .slice ta tn tc] (w.alloc (.cells #[.int .i64 o, .int .i64 k, .int .i64 a, .int .i64 b, .string T, .string C, .string N, .string Y, .slice ta tn tc] 27))) := RegI.start _ hw hB
  have hnH : Hid (ws.length ≤ 1073741000) := Nat.le_trans hn (by omega)
  clear hw hB hn
  go_enter Tryz.func43, Tryz.ntmps43
  go_wp2_with (first
      | (at_builtin; refine appX rfl _ _ _ rfl B w v v ws (N.data.toList) _ rfl rfl (by first | rfl | (simp; done) | (simp; rfl)) (by repeat (first | exact hok2.out.wrk | exact hok.out.wrk | refine Wrk.drew ?_ | refine Wrk.alloc ?_ _)) hnH.out ?_; intro v' w' hvH))
  all_goals (go_ret; exact ⟨_, rfl, hvH.out⟩)

set_option maxRecDepth 1000000 in
set_option maxHeartbeats 4000000 in
theorem opY (o k a b : Int) (T C N Y : ByteArray) (ta : Option Addr) (tn tc : Nat) (v : Value) (ws : List (List UInt8)) (B : Nat) (w : World) (hw : WordsAt B w v ws) (hB : B ≤ w.heap.size) (hn : ws.length ≤ 1000) :
    Calls Tryz.prog 43 #[v, insV o k a b T C N Y (.slice ta tn tc), .int .i32 89] w fun e w' => ∃ v', e = .returned v' ∧ Wrk B w v (ws ++ [Y.data.toList]) v' w' := by
  have hok : Hid (RegI B w ws v w.heap.size #[.int .i64 o, .int .i64 k, .int .i64 a, .int .i64 b, .string T, .string C, .string N, .string Y, .slice ta tn tc] (w.alloc (.cells #[.int .i64 o, .int .i64 k, .int .i64 a, .int .i64 b, .string T, .string C, .string N, .string Y, .slice ta tn tc] 27))) := RegI.start _ hw hB
  have hnH : Hid (ws.length ≤ 1073741000) := Nat.le_trans hn (by omega)
  clear hw hB hn
  go_enter Tryz.func43, Tryz.ntmps43
  go_wp2_with (first
      | (at_builtin; refine appX rfl _ _ _ rfl B w v v ws (Y.data.toList) _ rfl rfl (by first | rfl | (simp; done) | (simp; rfl)) (by repeat (first | exact hok2.out.wrk | exact hok.out.wrk | refine Wrk.drew ?_ | refine Wrk.alloc ?_ _)) hnH.out ?_; intro v' w' hvH))
  all_goals (go_ret; exact ⟨_, rfl, hvH.out⟩)
end Go.Proofs.YtcencddbdidjjaaGreatDoor
