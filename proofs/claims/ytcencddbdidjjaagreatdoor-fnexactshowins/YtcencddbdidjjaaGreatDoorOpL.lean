/- impl.appendOperand, letter by letter. -/
import Derived.Test.YtcencddbdidjjaaGreatDoorOpN
import Derived.Test.YtcencddbdidjjaaGreatDoorQt
import Derived.Deep.RegionLaw
namespace Go.Proofs.YtcencddbdidjjaaGreatDoor
set_option linter.unusedVariables false
open Go.ChangeShapes Go.WideShapes Go.ChangeAt Go.RowKit

set_option maxRecDepth 1000000 in
set_option maxHeartbeats 4000000 in
theorem opL (o k a b : Int) (T C N Y : ByteArray) (ta : Option Addr) (tc : Nat) (v : Value) (ws : List (List UInt8)) (B : Nat) (w : World) (hw : WordsAt B w v ws) (hB : B ≤ w.heap.size) (hn : ws.length ≤ 1000) (zs : List Int) (hz : zs.length ≤ 1048576) (h64 : ∀ z ∈ zs, B64 z) (he : ∀ W, Below B w W → Env W) (ht : ∀ W, Below B w W → Tab W (.slice ta zs.length tc) zs) :
    Calls Tryz.prog 43 #[v, insV o k a b T C N Y (.slice ta zs.length tc), .int .i32 76] w fun e w' => ∃ v', e = .returned v' ∧ Wrk B w v (ws ++ zs.map Lib.itoa) v' w' := by
  have hok : Hid (RegI B w ws v w.heap.size #[.int .i64 o, .int .i64 k, .int .i64 a, .int .i64 b, .string T, .string C, .string N, .string Y, .slice ta zs.length tc] (w.alloc (.cells #[.int .i64 o, .int .i64 k, .int .i64 a, .int .i64 b, .string T, .string C, .string N, .string Y, .slice ta zs.length tc] 27))) := RegI.start _ hw hB
  have hn0 := hn
  have hnH : Hid (ws.length ≤ 1073741000) := Nat.le_trans hn (by omega)
  clear hw hB hn
  go_enter Tryz.func43, Tryz.ntmps43
  have hok3 : Hid (Wrk B w v ws v (w.alloc (.cells #[.int .i64 o, .int .i64 k, .int .i64 a, .int .i64 b, .string T, .string C, .string N, .string Y, .slice ta zs.length tc] 27))) := hok.out.wrk
  have hn1 : Hid (ws.length ≤ 1000) := hn0
  have htH : Hid (∀ W, Below B w W → Tab W (.slice ta zs.length tc) zs) := ht
  have heA : Hid (∀ W, Below B w W → Env W) := he
  have h64H : Hid (∀ z ∈ zs, B64 z) := h64
  obtain ⟨n, hn⟩ : ∃ n, n = zs.length := ⟨_, rfl⟩
  have hnE : Hid (n = zs.length) := hn
  have hz' : n ≤ 1048576 := by omega
  rw [← hn] at hok3
  rw [← hn]
  clear ht he h64 hn hok hz hn0 hnH
  go_wp2_with fail
  go_loopw [0, 124] (fun wv iv wr => ∃ i : Nat, i ≤ n ∧ iv = .int .i64 i ∧ Hid (Wrk B w v (ws ++ (zs.take i).map Lib.itoa) wv wr)) (fun _ iv _ => n - (intOf iv).toNat)
  case atStart => exact ⟨0, by omega, rfl, by show Wrk _ _ _ _ _ _; simpa using hok3.out⟩
  case round =>
    obtain ⟨i, hi, rfl, hwk⟩ := hrel
    by_cases hlt : i < n
    · have hi0 : (0 : Int) ≤ i := by omega
      have hi1 : (i : Int) < n := by omega
      have hltz : i < zs.length := by rw [← hnE.out]; exact hlt
      obtain ⟨g, hg, hcel⟩ := Tab.cells (htH.out wr hwk.out.below) i hltz
      subst hg
      obtain ⟨z, hz⟩ : ∃ z, zs[i]'hltz = z := ⟨_, rfl⟩
      have h64z : Hid (B64 z) := by rw [← hz]; exact h64H.out _ (List.getElem_mem hltz)
      have hnx : Hid ((zs.take (i + 1)).map Lib.itoa = (zs.take i).map Lib.itoa ++ [Lib.itoa z]) := by
        show _ = _
        rw [List.take_succ_eq_append_getElem hltz, List.map_append, hz]; rfl
      rw [hz] at hcel
      clear hz hltz
      go_wp2_with (first
        | (go_at_call 71; refine (number_calls z _ h64z.out (heA.out _ hwk.out.below)).mono ?_; rintro e W2 ⟨rfl, hb12⟩; have hwk2 : Hid (Wrk B w v (ws ++ (zs.take i).map Lib.itoa) u0 W2) := hwk.out.call hb12; clear hb12)
        | (at_builtin; refine appX rfl _ _ _ rfl B w v u0 (ws ++ (zs.take i).map Lib.itoa) (Lib.itoa z) _ rfl rfl (by simp; rfl) (hwk2.out.alloc _) (by have := hn1.out; have := hnE.out; simp; omega) ?_; intro v' w' hvH))
      go_roundw
      case rel =>
        refine ⟨i + 1, by omega, by go_num, ?_⟩
        show Wrk _ _ _ _ _ _
        rw [hnx.out, ← List.append_assoc]
        exact hvH.out
      case measure => simp [intOf]; omega
    · have hin : i = n := by omega
      have hall : Hid ((zs.take i).map Lib.itoa = zs.map Lib.itoa) := by
        show _ = _
        rw [hin, hnE.out, List.take_length]
      go_wp2
      go_ret
      exact ⟨_, rfl, by rw [← hall.out]; exact hwk.out⟩
end Go.Proofs.YtcencddbdidjjaaGreatDoor
