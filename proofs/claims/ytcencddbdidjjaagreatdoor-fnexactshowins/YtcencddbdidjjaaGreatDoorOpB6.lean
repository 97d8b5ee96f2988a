/- impl.appendOperand, letter by letter. -/
import Derived.Test.YtcencddbdidjjaaGreatDoorOpN
import Derived.Test.YtcencddbdidjjaaGreatDoorQt
import Derived.Deep.RegionLaw
namespace Go.Proofs.YtcencddbdidjjaaGreatDoor
set_option linter.unusedVariables false
open Go.ChangeShapes Go.WideShapes Go.ChangeAt Go.RowKit

set_option maxRecDepth 1000000 in
set_option maxHeartbeats 4000000 in
theorem opW (o k a : Int) (j : Nat) (T C N Y : ByteArray) (ta : Option Addr) (tn tc : Nat) (v : Value) (ws : List (List UInt8)) (B : Nat) (w : World) (hw : WordsAt B w v ws) (hB : B ≤ w.heap.size) (hn : ws.length ≤ 1000) (hj : j < 5) :
    Calls Tryz.prog 43 #[v, insV o k a (j : Int) T C N Y (.slice ta tn tc), .int .i32 87] w fun e w' => ∃ v', e = .returned v' ∧ Wrk B w v (ws ++ [wordAt callT j]) v' w' := by
  have hok : Hid (RegI B w ws v w.heap.size #[.int .i64 o, .int .i64 k, .int .i64 a, .int .i64 (j : Int), .string T, .string C, .string N, .string Y, .slice ta tn tc] (w.alloc (.cells #[.int .i64 o, .int .i64 k, .int .i64 a, .int .i64 (j : Int), .string T, .string C, .string N, .string Y, .slice ta tn tc] 27))) := RegI.start _ hw hB
  have hnH : Hid (ws.length ≤ 1073741000) := Nat.le_trans hn (by omega)
  clear hw hB hn
  go_enter Tryz.func43, Tryz.ntmps43
  have hj' : (j : Int) < 5 := by omega
  have hj0' : (0 : Int) ≤ (j : Int) := by omega
  go_wp2_with fail
  go_region_law (first
      | (refine wp_appX _ _ _ rfl B w v v ws (wordAt callT j) _ rfl rfl (by simp) (by repeat (first | exact hok2.out.wrk | exact hok.out.wrk | refine Wrk.drew ?_ | refine Wrk.alloc ?_ _)) hnH.out ?_; intro v' w' hvH)
      | (go_simp; refine (call_listed _ (w.heap.size + 1) (by simp)).mono ?_; rintro e W2 ⟨rfl, hcells, hb12⟩; have hc := hcells j (wordAt callT j) (by simp only [wordAt, Int.toNat_natCast, List.getD_eq_getElem?_getD]; rw [List.getElem?_eq_getElem (show j < callT.length from hj)]; rfl); have hok2 : Hid (RegI B w ws v w.heap.size #[.int .i64 o, .int .i64 k, .int .i64 a, .int .i64 (j : Int), .string T, .string C, .string N, .string Y, .slice ta tn tc] W2) := RegI.call (B := B) (w := w) (ws := ws) (v := v) (q := w.heap.size) (I := #[.int .i64 o, .int .i64 k, .int .i64 a, .int .i64 (j : Int), .string T, .string C, .string N, .string Y, .slice ta tn tc]) (by repeat (first | exact hok.out | refine RegI.drew ?_ | refine RegI.alloc ?_ _)) hb12; clear hb12; have hcel : W2.cell? ⟨w.heap.size, 3, none⟩ = some (.int .i64 j) := hok2.out.cell 3; clear hcells))
  all_goals (go_wp2; go_ret; exact ⟨_, rfl, hvH.out⟩)

set_option maxRecDepth 1000000 in
set_option maxHeartbeats 4000000 in
theorem opO (o k a b : Int) (T C N Y : ByteArray) (ta : Option Addr) (tn tc : Nat) (v : Value) (ws : List (List UInt8)) (B : Nat) (w : World) (hw : WordsAt B w v ws) (hB : B ≤ w.heap.size) (hn : ws.length ≤ 1000) (hk3 : (k == 3) = false) :
    Calls Tryz.prog 43 #[v, insV o k a b T C N Y (.slice ta tn tc), .int .i32 79] w fun e w' => ∃ v', e = .returned v' ∧ Wrk B w v (ws ++ []) v' w' := by
  have hok : Hid (RegI B w ws v w.heap.size #[.int .i64 o, .int .i64 k, .int .i64 a, .int .i64 b, .string T, .string C, .string N, .string Y, .slice ta tn tc] (w.alloc (.cells #[.int .i64 o, .int .i64 k, .int .i64 a, .int .i64 b, .string T, .string C, .string N, .string Y, .slice ta tn tc] 27))) := RegI.start _ hw hB
  have hnH : Hid (ws.length ≤ 1073741000) := Nat.le_trans hn (by omega)
  clear hw hB hn
  go_enter Tryz.func43, Tryz.ntmps43
  go_wp2
  go_ret
  exact ⟨_, rfl, by rw [List.append_nil]; exact hok.out.wrk⟩
end Go.Proofs.YtcencddbdidjjaaGreatDoor
