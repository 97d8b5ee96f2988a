/- impl.appendOperand, letter by letter. -/
import Derived.Test.YtcencddbdidjjaaGreatDoorOpN
import Derived.Test.YtcencddbdidjjaaGreatDoorQt
import Derived.Deep.RegionLaw
namespace Go.Proofs.YtcencddbdidjjaaGreatDoor
set_option linter.unusedVariables false
open Go.ChangeShapes Go.WideShapes Go.ChangeAt Go.RowKit

set_option maxRecDepth 1000000 in
set_option maxHeartbeats 4000000 in
theorem opK (o a b : Int) (j : Nat) (T C N Y : ByteArray) (ta : Option Addr) (tn tc : Nat) (v : Value) (ws : List (List UInt8)) (B : Nat) (w : World) (hw : WordsAt B w v ws) (hB : B ≤ w.heap.size) (hn : ws.length ≤ 1000) (hj : j < 5) :
    Calls Tryz.prog 43 #[v, insV o (j : Int) a b T C N Y (.slice ta tn tc), .int .i32 75] w fun e w' => ∃ v', e = .returned v' ∧ Wrk B w v (ws ++ [wordAt kindT j]) v' w' := by
  have hok : Hid (RegI B w ws v w.heap.size #[.int .i64 o, .int .i64 (j : Int), .int .i64 a, .int .i64 b, .string T, .string C, .string N, .string Y, .slice ta tn tc] (w.alloc (.cells #[.int .i64 o, .int .i64 (j : Int), .int .i64 a, .int .i64 b, .string T, .string C, .string N, .string Y, .slice ta tn tc] 27))) := RegI.start _ hw hB
  have hnH : Hid (ws.length ≤ 1073741000) := Nat.le_trans hn (by omega)
  clear hw hB hn
  go_enter Tryz.func43, Tryz.ntmps43
  have hj' : (j : Int) < 5 := by omega
  have hj0' : (0 : Int) ≤ (j : Int) := by omega
  go_wp2_with fail
  go_region_law (first
      | (refine wp_appX _ _ _ rfl B w v v ws (wordAt kindT j) _ rfl rfl (by simp) (by repeat (first | exact hok2.out.wrk | exact hok.out.wrk | refine Wrk.drew ?_ | refine Wrk.alloc ?_ _)) hnH.out ?_; intro v' w' hvH)
      | (go_simp; refine (kind_listed _ (w.heap.size + 1) (by simp)).mono ?_; rintro e W2 ⟨rfl, hcells, hb12⟩; have hc := hcells j (wordAt kindT j) (by simp only [wordAt, Int.toNat_natCast, List.getD_eq_getElem?_getD]; rw [List.getElem?_eq_getElem (show j < kindT.length from hj)]; rfl); have hok2 : Hid (RegI B w ws v w.heap.size #[.int .i64 o, .int .i64 (j : Int), .int .i64 a, .int .i64 b, .string T, .string C, .string N, .string Y, .slice ta tn tc] W2) := RegI.call (B := B) (w := w) (ws := ws) (v := v) (q := w.heap.size) (I := #[.int .i64 o, .int .i64 (j : Int), .int .i64 a, .int .i64 b, .string T, .string C, .string N, .string Y, .slice ta tn tc]) (by repeat (first | exact hok.out | refine RegI.drew ?_ | refine RegI.alloc ?_ _)) hb12; clear hb12; have hcel : W2.cell? ⟨w.heap.size, 1, none⟩ = some (.int .i64 j) := hok2.out.cell 1; clear hcells))
  all_goals (go_wp2; go_ret; exact ⟨_, rfl, hvH.out⟩)

set_option maxRecDepth 1000000 in
set_option maxHeartbeats 4000000 in
theorem opR (o a b : Int) (j : Nat) (T C N Y : ByteArray) (ta : Option Addr) (tn tc : Nat) (v : Value) (ws : List (List UInt8)) (B : Nat) (w : World) (hw : WordsAt B w v ws) (hB : B ≤ w.heap.size) (hn : ws.length ≤ 1000) (hj : j < 5) (hj0 : ((j : Int) == 0) = false) :
    Calls Tryz.prog 43 #[v, insV o (j : Int) a b T C N Y (.slice ta tn tc), .int .i32 82] w fun e w' => ∃ v', e = .returned v' ∧ Wrk B w v (ws ++ [wordAt kindT j]) v' w' := by
  have hok : Hid (RegI B w ws v w.heap.size #[.int .i64 o, .int .i64 (j : Int), .int .i64 a, .int .i64 b, .string T, .string C, .string N, .string Y, .slice ta tn tc] (w.alloc (.cells #[.int .i64 o, .int .i64 (j : Int), .int .i64 a, .int .i64 b, .string T, .string C, .string N, .string Y, .slice ta tn tc] 27))) := RegI.start _ hw hB
  have hnH : Hid (ws.length ≤ 1073741000) := Nat.le_trans hn (by omega)
  clear hw hB hn
  go_enter Tryz.func43, Tryz.ntmps43
  have hj' : (j : Int) < 5 := by omega
  have hj0' : (0 : Int) ≤ (j : Int) := by omega
  go_wp2_with fail
  go_region_law (first
      | (refine wp_appX _ _ _ rfl B w v v ws (wordAt kindT j) _ rfl rfl (by simp) (by repeat (first | exact hok2.out.wrk | exact hok.out.wrk | refine Wrk.drew ?_ | refine Wrk.alloc ?_ _)) hnH.out ?_; intro v' w' hvH)
      | (go_simp; refine (kind_listed _ (w.heap.size + 1) (by simp)).mono ?_; rintro e W2 ⟨rfl, hcells, hb12⟩; have hc := hcells j (wordAt kindT j) (by simp only [wordAt, Int.toNat_natCast, List.getD_eq_getElem?_getD]; rw [List.getElem?_eq_getElem (show j < kindT.length from hj)]; rfl); have hok2 : Hid (RegI B w ws v w.heap.size #[.int .i64 o, .int .i64 (j : Int), .int .i64 a, .int .i64 b, .string T, .string C, .string N, .string Y, .slice ta tn tc] W2) := RegI.call (B := B) (w := w) (ws := ws) (v := v) (q := w.heap.size) (I := #[.int .i64 o, .int .i64 (j : Int), .int .i64 a, .int .i64 b, .string T, .string C, .string N, .string Y, .slice ta tn tc]) (by repeat (first | exact hok.out | refine RegI.drew ?_ | refine RegI.alloc ?_ _)) hb12; clear hb12; have hcel : W2.cell? ⟨w.heap.size, 1, none⟩ = some (.int .i64 j) := hok2.out.cell 1; clear hcells))
  all_goals (go_wp2; go_ret; exact ⟨_, rfl, hvH.out⟩)

set_option maxRecDepth 1000000 in
set_option maxHeartbeats 4000000 in
theorem opR0 (o a b : Int) (T C N Y : ByteArray) (ta : Option Addr) (tn tc : Nat) (v : Value) (ws : List (List UInt8)) (B : Nat) (w : World) (hw : WordsAt B w v ws) (hB : B ≤ w.heap.size) (hn : ws.length ≤ 1000) :
    Calls Tryz.prog 43 #[v, insV o 0 a b T C N Y (.slice ta tn tc), .int .i32 82] w fun e w' => ∃ v', e = .returned v' ∧ Wrk B w v (ws ++ []) v' w' := by
  have hok : Hid (RegI B w ws v w.heap.size #[.int .i64 o, .int .i64 0, .int .i64 a, .int .i64 b, .string T, .string C, .string N, .string Y, .slice ta tn tc] (w.alloc (.cells #[.int .i64 o, .int .i64 0, .int .i64 a, .int .i64 b, .string T, .string C, .string N, .string Y, .slice ta tn tc] 27))) := RegI.start _ hw hB
  have hnH : Hid (ws.length ≤ 1073741000) := Nat.le_trans hn (by omega)
  clear hw hB hn
  go_enter Tryz.func43, Tryz.ntmps43
  go_wp2
  go_ret
  exact ⟨_, rfl, by rw [List.append_nil]; exact hok.out.wrk⟩

set_option maxRecDepth 1000000 in
set_option maxHeartbeats 4000000 in
theorem opQ (o k a b : Int) (T C N Y : ByteArray) (ta : Option Addr) (tn tc : Nat) (v : Value) (ws : List (List UInt8)) (B : Nat) (w : World) (hw : WordsAt B w v ws) (hB : B ≤ w.heap.size) (hn : ws.length ≤ 1000) (hT : T.size ≤ 1048576) :
    Calls Tryz.prog 43 #[v, insV o k a b T C N Y (.slice ta tn tc), .int .i32 81] w fun e w' => ∃ v', e = .returned v' ∧ Wrk B w v (ws ++ [quoL T.data.toList]) v' w' := by
  have hok : Hid (RegI B w ws v w.heap.size #[.int .i64 o, .int .i64 k, .int .i64 a, .int .i64 b, .string T, .string C, .string N, .string Y, .slice ta tn tc] (w.alloc (.cells #[.int .i64 o, .int .i64 k, .int .i64 a, .int .i64 b, .string T, .string C, .string N, .string Y, .slice ta tn tc] 27))) := RegI.start _ hw hB
  have hnH : Hid (ws.length ≤ 1073741000) := Nat.le_trans hn (by omega)
  clear hw hB hn
  go_enter Tryz.func43, Tryz.ntmps43
  go_wp2_with (first
      | (go_at_call 75; refine (quoted_calls T _ hT).mono ?_; rintro e W2 ⟨rfl, hb12⟩; have hok2 : Hid (RegI B w ws v w.heap.size #[.int .i64 o, .int .i64 k, .int .i64 a, .int .i64 b, .string T, .string C, .string N, .string Y, .slice ta tn tc] W2) := RegI.call (B := B) (w := w) (ws := ws) (v := v) (q := w.heap.size) (I := #[.int .i64 o, .int .i64 k, .int .i64 a, .int .i64 b, .string T, .string C, .string N, .string Y, .slice ta tn tc]) (by repeat (first | exact hok.out | refine RegI.drew ?_ | refine RegI.alloc ?_ _)) hb12; clear hb12)
      | (at_builtin; refine appX rfl _ _ _ rfl B w v v ws (quoL T.data.toList) _ rfl rfl (by first | rfl | (simp; done) | (simp; rfl)) (by repeat (first | exact hok2.out.wrk | exact hok.out.wrk | refine Wrk.drew ?_ | refine Wrk.alloc ?_ _)) hnH.out ?_; intro v' w' hvH))
  all_goals (go_ret; exact ⟨_, rfl, hvH.out⟩)
end Go.Proofs.YtcencddbdidjjaaGreatDoor
