/- The specification's answer on one thread of a litmus test: the walk. -/
import Derived.Test.YtknbchheoloaoaaGreatLtB
namespace Go.Proofs.YtknbchheoloaoaaGreat
set_option linter.unusedVariables false
open Go.ChangeShapes Go.WideShapes Go.ChangeAt Go.RowKit

structure ActW (w wr : World) (k v n : Int) (vars locks : Int) (p q : Bool) : Prop where
 e0 : (wr.alloc (.cells #[.int .i64 k, .int .i64 v, .int .i64 n] 60)).cell? ⟨w.heap.size, 0, none⟩ = some (.int .i64 vars)
 e2 : (wr.alloc (.cells #[.int .i64 k, .int .i64 v, .int .i64 n] 60)).cell? ⟨w.heap.size, 2, none⟩ = some (.int .i64 locks)
 g0 : (wr.alloc (.cells #[.int .i64 k, .int .i64 v, .int .i64 n] 60)).cell? ⟨w.heap.size + 1, 0, none⟩ = some (.bool p)
 g1 : (wr.alloc (.cells #[.int .i64 k, .int .i64 v, .int .i64 n] 60)).cell? ⟨w.heap.size + 1, 1, none⟩ = some (.bool q)
 x0 : (wr.alloc (.cells #[.int .i64 k, .int .i64 v, .int .i64 n] 60)).frozen? ⟨w.heap.size + 1, 0, none⟩ = false
 x1 : (wr.alloc (.cells #[.int .i64 k, .int .i64 v, .int .i64 n] 60)).frozen? ⟨w.heap.size + 1, 1, none⟩ = false
theorem HeldW.act {w wr : World} {vars locks : Int} {p q : Bool} (h : HeldW w wr vars locks p q) (k v n : Int) : ActW w wr k v n vars locks p q := by
 have h' := h.on (below_1 wr (.cells #[.int .i64 k, .int .i64 v, .int .i64 n] 60))
 exact ⟨h'.c0, h'.c2, h'.d0, h'.d1, h'.f0, h'.f1⟩

theorem HeldW.start {w W0 : World} {vars vol locks : Int} {tv : Value} {t t' : TypeId} (hW : W0 = (w.alloc (.cells #[.int .i64 vars, .int .i64 vol, .int .i64 locks, tv] t)).alloc (.cells #[.bool false, .bool false] t')) : HeldW w W0 vars locks false false := by
 have r := Rec2.start hW
 have h1 : W0.heap[w.heap.size + 1]? = some (.cells #[.bool false, .bool false] t' (0, 0)) := by
  rw [hW]
  have h := heap_alloc_new (w.alloc (.cells #[.int .i64 vars, .int .i64 vol, .int .i64 locks, tv] t)) (.cells #[.bool false, .bool false] t')
  simpa using h
 exact ⟨r.hb, r.sz, r.cell1 0 _ rfl, r.cell1 2 _ rfl, r.cell2 0 _ rfl, r.cell2 1 _ rfl, by simp [World.frozen?, h1], by simp [World.frozen?, h1]⟩

set_option maxRecDepth 1000000 in
set_option maxHeartbeats 4000000 in
theorem thread_calls (vars vol locks : Int) (tv : Value) (a : Option Addr) (c : Nat) (acts : List ActL) (w : World) (lo hi : Nat) (hh : hi ≤ w.heap.size) (hv0 : 0 ≤ vars) (hv1 : vars ≤ 4) (hl0 : 0 ≤ locks) (hl1 : locks ≤ 2) (hacts : ListAt ActR 3 true lo hi w (.slice a acts.length c) acts) (ht : ∃ ta tn tc, tv = .slice ta tn tc) (hn : acts.length ≤ 1048576) :
  Calls Tryz.prog 41 #[.agg #[.int .i64 vars, .int .i64 vol, .int .i64 locks, tv], .slice a acts.length c] w fun e w' => e = .returned (.bool (threadB vars locks acts)) ∧ Below w.heap.size w w' := by
 obtain ⟨ta, tn, tc, rfl⟩ := ht
 have hactsH : Hid (∀ W, Below w.heap.size w W → ListAt ActR 3 true lo hi W (.slice a acts.length c) acts) := fun W hW => hacts.kept ActR.stable (Nat.le_refl _) (Nat.le_refl _) ((Same.below hW).mono (Nat.zero_le _) hh)
 have hhH : Hid (hi ≤ w.heap.size) := hh
 clear hacts hh
 by_cases hlen : acts.length ≤ 4
 ·have htb : Hid (threadB vars locks acts = tailB vars locks (false, false) (acts.drop 0)) := by
   show _ = _
   simp [threadB, hlen]
  have hle : (acts.length : Int) ≤ 4 := by omega
  generalize threadB vars locks acts = tb at htb ⊢
  go_enter Tryz.func41, Tryz.ntmps41
  go_wp2
  obtain ⟨W0, hW0⟩ : ∃ W : World, W = (w.alloc (.cells #[.int .i64 vars, .int .i64 vol, .int .i64 locks, .slice ta tn tc] 34)).alloc (.cells #[.bool false, .bool false] 4) := ⟨_, rfl⟩
  have hH0 : Hid (HeldW w W0 vars locks false false) := HeldW.start hW0
  rw [← hW0]
  clear hW0
  have hld : Hid ((Tryz.prog.info? 60).map (·.size) = some 3) := by show _ = _; kernel_rfl
  go_loopw [6] (fun iv wr => ∃ (i : Nat) (p q : Bool), i ≤ acts.length ∧ iv = .int .i64 i ∧ Hid (HeldW w wr vars locks p q) ∧ Hid (tb = tailB vars locks (p, q) (acts.drop i))) (fun iv _ => acts.length - (intOf iv).toNat)
  case atStart => exact ⟨0, false, false, Nat.zero_le _, rfl, hH0, htb⟩
  case round =>
   obtain ⟨i, p, q, hi, rfl, hH, hT⟩ := hrel
   by_cases hlt : i < acts.length
   ·have hlt' : (i : Int) < acts.length := by omega
    have hi0 : (0 : Int) ≤ i := by omega
    obtain ⟨b, off, row, rfl, hbb, hrl, hrr, hrx⟩ := (hactsH.out wr hH.out.hb).at i hlt
    have hrx : row = [.int .i64 acts[i].kind, .int .i64 acts[i].var, .int .i64 acts[i].n] := hrx
    have hnone : Hid (actStep vars locks (p, q) acts[i] = none → tb = false) := fun h => hT.out.trans (tailB_none hlt h)
    have hsome : Hid (∀ h', actStep vars locks (p, q) acts[i] = some h' → tb = tailB vars locks h' (acts.drop (i + 1))) := fun h' h => hT.out.trans (tailB_some hlt h)
    have hact : Hid (∀ o, actStep vars locks (p, q) ⟨acts[i].kind, acts[i].var, acts[i].n⟩ = o → actStep vars locks (p, q) acts[i] = o) := fun o h => h
    generalize hk : acts[i].kind = k at *
    generalize hv : acts[i].var = v at *
    generalize hnn : acts[i].n = n at *
    subst hrx
    clear hk hv hnn hT
    obtain ⟨e0, e2, g0, g1, x0, x1⟩ := hH.out.act k v n
    have hrrH : Hid (wr.rangeAt b (off + i * 3) [.int .i64 k, .int .i64 v, .int .i64 n]) := hrr
    clear hrr hrl
    by_cases k1 : k = 1
    ·subst k1
     by_cases hb : btw v 0 (vars - 1) = true
     ·by_cases hn0 : n = 0
      ·subst hn0
       have hst : Hid (actStep vars locks (p, q) ⟨1, v, 0⟩ = some (p, q)) := by show _ = _; simp [actStep, hb]
       go_wp2_with (first
        | (refine wpList_load_mid rfl 60 _ rfl b (off + i * 3) (by first | rfl | (simp; done)) [.int .i64 1, .int .i64 v, .int .i64 0] _ hrrH.out Tryz.underlying60 rfl hld.out ?_)
        | (go_at_call 40; refine (between_calls _ _ _ _).mono ?_; rintro e w' ⟨rfl, rfl⟩))
       go_roundw
       case rel => exact ⟨i + 1, p, q, by omega, by go_num, hH.out.on (below_1 _ _), hsome.out _ (hact.out _ hst.out)⟩
       case measure => simp [intOf]; omega
      ·have hnb : (n != 0) = true := by simpa using hn0
       have hst : Hid (actStep vars locks (p, q) ⟨1, v, n⟩ = none) := by show _ = _; simp [actStep, hn0]
       go_wp2_with (first
        | (refine wpList_load_mid rfl 60 _ rfl b (off + i * 3) (by first | rfl | (simp; done)) [.int .i64 1, .int .i64 v, .int .i64 n] _ hrrH.out Tryz.underlying60 rfl hld.out ?_)
        | (go_at_call 40; refine (between_calls _ _ _ _).mono ?_; rintro e w' ⟨rfl, rfl⟩))
       go_ret
       exact ⟨by rw [hnone.out (hact.out _ hst.out)]; rfl, by first | exact below_on hH.out.hb (below_1 _ _) | exact below_drewN (below_on hH.out.hb (below_1 _ _)) _⟩
     ·have hb1 : btw v 0 (vars - 1) = false := by simpa using hb
      have hst : Hid (actStep vars locks (p, q) ⟨1, v, n⟩ = none) := by show _ = _; simp [actStep, hb1]
      go_wp2_with (first
       | (refine wpList_load_mid rfl 60 _ rfl b (off + i * 3) (by first | rfl | (simp; done)) [.int .i64 1, .int .i64 v, .int .i64 n] _ hrrH.out Tryz.underlying60 rfl hld.out ?_)
       | (go_at_call 40; refine (between_calls _ _ _ _).mono ?_; rintro e w' ⟨rfl, rfl⟩))
      go_ret
      exact ⟨by rw [hnone.out (hact.out _ hst.out)]; rfl, by first | exact below_on hH.out.hb (below_1 _ _) | exact below_drewN (below_on hH.out.hb (below_1 _ _)) _⟩
    ·have kb1 : (k == 1) = false := by simpa using k1
     by_cases k2 : k = 2
     ·subst k2
      by_cases hb : btw v 0 (vars - 1) = true
      ·by_cases hn0 : btw n (-100) 100 = true
       ·have hst : Hid (actStep vars locks (p, q) ⟨2, v, n⟩ = some (p, q)) := by show _ = _; simp [actStep, hb, hn0]
        go_wp2_with (first
         | (refine wpList_load_mid rfl 60 _ rfl b (off + i * 3) (by first | rfl | (simp; done)) [.int .i64 2, .int .i64 v, .int .i64 n] _ hrrH.out Tryz.underlying60 rfl hld.out ?_)
         | (go_at_call 40; refine (between_calls _ _ _ _).mono ?_; rintro e w' ⟨rfl, rfl⟩))
        go_roundw
        case rel => exact ⟨i + 1, p, q, by omega, by go_num, hH.out.on (below_1 _ _), hsome.out _ (hact.out _ hst.out)⟩
        case measure => simp [intOf]; omega
       ·have hn1 : btw n (-100) 100 = false := by simpa using hn0
        have hst : Hid (actStep vars locks (p, q) ⟨2, v, n⟩ = none) := by show _ = _; simp [actStep, hn1]
        go_wp2_with (first
         | (refine wpList_load_mid rfl 60 _ rfl b (off + i * 3) (by first | rfl | (simp; done)) [.int .i64 2, .int .i64 v, .int .i64 n] _ hrrH.out Tryz.underlying60 rfl hld.out ?_)
         | (go_at_call 40; refine (between_calls _ _ _ _).mono ?_; rintro e w' ⟨rfl, rfl⟩))
        go_ret
        exact ⟨by rw [hnone.out (hact.out _ hst.out)]; rfl, by first | exact below_on hH.out.hb (below_1 _ _) | exact below_drewN (below_on hH.out.hb (below_1 _ _)) _⟩
      ·have hb1 : btw v 0 (vars - 1) = false := by simpa using hb
       have hst : Hid (actStep vars locks (p, q) ⟨2, v, n⟩ = none) := by show _ = _; simp [actStep, hb1]
       go_wp2_with (first
        | (refine wpList_load_mid rfl 60 _ rfl b (off + i * 3) (by first | rfl | (simp; done)) [.int .i64 2, .int .i64 v, .int .i64 n] _ hrrH.out Tryz.underlying60 rfl hld.out ?_)
        | (go_at_call 40; refine (between_calls _ _ _ _).mono ?_; rintro e w' ⟨rfl, rfl⟩))
       go_ret
       exact ⟨by rw [hnone.out (hact.out _ hst.out)]; rfl, by first | exact below_on hH.out.hb (below_1 _ _) | exact below_drewN (below_on hH.out.hb (below_1 _ _)) _⟩
     ·have kb2 : (k == 2) = false := by simpa using k2
      by_cases k3 : k = 3
      ·subst k3
       by_cases hb : btw v 0 (vars - 1) = true
       ·by_cases hn0 : btw n (-100) 100 = true
        ·have hst : Hid (actStep vars locks (p, q) ⟨3, v, n⟩ = some (p, q)) := by show _ = _; simp [actStep, hb, hn0]
         go_wp2_with (first
          | (refine wpList_load_mid rfl 60 _ rfl b (off + i * 3) (by first | rfl | (simp; done)) [.int .i64 3, .int .i64 v, .int .i64 n] _ hrrH.out Tryz.underlying60 rfl hld.out ?_)
          | (go_at_call 40; refine (between_calls _ _ _ _).mono ?_; rintro e w' ⟨rfl, rfl⟩))
         go_roundw
         case rel => exact ⟨i + 1, p, q, by omega, by go_num, hH.out.on (below_1 _ _), hsome.out _ (hact.out _ hst.out)⟩
         case measure => simp [intOf]; omega
        ·have hn1 : btw n (-100) 100 = false := by simpa using hn0
         have hst : Hid (actStep vars locks (p, q) ⟨3, v, n⟩ = none) := by show _ = _; simp [actStep, hn1]
         go_wp2_with (first
          | (refine wpList_load_mid rfl 60 _ rfl b (off + i * 3) (by first | rfl | (simp; done)) [.int .i64 3, .int .i64 v, .int .i64 n] _ hrrH.out Tryz.underlying60 rfl hld.out ?_)
          | (go_at_call 40; refine (between_calls _ _ _ _).mono ?_; rintro e w' ⟨rfl, rfl⟩))
         go_ret
         exact ⟨by rw [hnone.out (hact.out _ hst.out)]; rfl, by first | exact below_on hH.out.hb (below_1 _ _) | exact below_drewN (below_on hH.out.hb (below_1 _ _)) _⟩
       ·have hb1 : btw v 0 (vars - 1) = false := by simpa using hb
        have hst : Hid (actStep vars locks (p, q) ⟨3, v, n⟩ = none) := by show _ = _; simp [actStep, hb1]
        go_wp2_with (first
         | (refine wpList_load_mid rfl 60 _ rfl b (off + i * 3) (by first | rfl | (simp; done)) [.int .i64 3, .int .i64 v, .int .i64 n] _ hrrH.out Tryz.underlying60 rfl hld.out ?_)
         | (go_at_call 40; refine (between_calls _ _ _ _).mono ?_; rintro e w' ⟨rfl, rfl⟩))
        go_ret
        exact ⟨by rw [hnone.out (hact.out _ hst.out)]; rfl, by first | exact below_on hH.out.hb (below_1 _ _) | exact below_drewN (below_on hH.out.hb (below_1 _ _)) _⟩
      ·have kb3 : (k == 3) = false := by simpa using k3
       by_cases k4 : k = 4
       ·subst k4
        by_cases hb : btw v 0 (locks - 1) = true
        ·by_cases hn0 : n = 0
         ·subst hn0
          have hv01 : v = 0 ∨ v = 1 := by simp [btw] at hb; omega
          rcases hv01 with rfl | rfl
          ·cases p
           ·have hst : Hid (actStep vars locks (false, q) ⟨4, 0, 0⟩ = some (true, q)) := by show _ = _; simp [actStep, hb, heldAt, heldSet]
            go_wp2_with (first
             | (refine wpList_load_mid rfl 60 _ rfl b (off + i * 3) (by first | rfl | (simp; done)) [.int .i64 4, .int .i64 0, .int .i64 0] _ hrrH.out Tryz.underlying60 rfl hld.out ?_)
             | (go_at_call 40; refine (between_calls _ _ _ _).mono ?_; rintro e w' ⟨rfl, rfl⟩))
            go_quiet ((go_at_call 40; exact Calls.quiet_of_same (between_calls _ _ _ _)))
            go_wp2
            go_roundw
            case rel => exact ⟨i + 1, true, q, by omega, by go_num, by first | exact (hH.out.on (below_1 _ _)).set0 _ | exact (hH.out.on (below_drewN (below_1 _ _) _)).set0 _, hsome.out _ (hact.out _ hst.out)⟩
            case measure => simp [intOf]; omega
           ·have hst : Hid (actStep vars locks (true, q) ⟨4, 0, 0⟩ = none) := by show _ = _; simp [actStep, hb, heldAt]
            go_wp2_with (first
             | (refine wpList_load_mid rfl 60 _ rfl b (off + i * 3) (by first | rfl | (simp; done)) [.int .i64 4, .int .i64 0, .int .i64 0] _ hrrH.out Tryz.underlying60 rfl hld.out ?_)
             | (go_at_call 40; refine (between_calls _ _ _ _).mono ?_; rintro e w' ⟨rfl, rfl⟩))
            go_quiet ((go_at_call 40; exact Calls.quiet_of_same (between_calls _ _ _ _)))
            go_wp2
            go_ret
            exact ⟨by rw [hnone.out (hact.out _ hst.out)]; rfl, by first | exact below_on hH.out.hb (below_1 _ _) | exact below_drewN (below_on hH.out.hb (below_1 _ _)) _⟩
          ·cases q
           ·have hst : Hid (actStep vars locks (p, false) ⟨4, 1, 0⟩ = some (p, true)) := by show _ = _; simp [actStep, hb, heldAt, heldSet]
            go_wp2_with (first
             | (refine wpList_load_mid rfl 60 _ rfl b (off + i * 3) (by first | rfl | (simp; done)) [.int .i64 4, .int .i64 1, .int .i64 0] _ hrrH.out Tryz.underlying60 rfl hld.out ?_)
             | (go_at_call 40; refine (between_calls _ _ _ _).mono ?_; rintro e w' ⟨rfl, rfl⟩))
            go_quiet ((go_at_call 40; exact Calls.quiet_of_same (between_calls _ _ _ _)))
            go_wp2
            go_roundw
            case rel => exact ⟨i + 1, p, true, by omega, by go_num, by first | exact (hH.out.on (below_1 _ _)).set1 _ | exact (hH.out.on (below_drewN (below_1 _ _) _)).set1 _, hsome.out _ (hact.out _ hst.out)⟩
            case measure => simp [intOf]; omega
           ·have hst : Hid (actStep vars locks (p, true) ⟨4, 1, 0⟩ = none) := by show _ = _; simp [actStep, hb, heldAt]
            go_wp2_with (first
             | (refine wpList_load_mid rfl 60 _ rfl b (off + i * 3) (by first | rfl | (simp; done)) [.int .i64 4, .int .i64 1, .int .i64 0] _ hrrH.out Tryz.underlying60 rfl hld.out ?_)
             | (go_at_call 40; refine (between_calls _ _ _ _).mono ?_; rintro e w' ⟨rfl, rfl⟩))
            go_quiet ((go_at_call 40; exact Calls.quiet_of_same (between_calls _ _ _ _)))
            go_wp2
            go_ret
            exact ⟨by rw [hnone.out (hact.out _ hst.out)]; rfl, by first | exact below_on hH.out.hb (below_1 _ _) | exact below_drewN (below_on hH.out.hb (below_1 _ _)) _⟩
         ·have hnb : (n != 0) = true := by simpa using hn0
          have hst : Hid (actStep vars locks (p, q) ⟨4, v, n⟩ = none) := by show _ = _; simp [actStep, hn0]
          go_wp2_with (first
           | (refine wpList_load_mid rfl 60 _ rfl b (off + i * 3) (by first | rfl | (simp; done)) [.int .i64 4, .int .i64 v, .int .i64 n] _ hrrH.out Tryz.underlying60 rfl hld.out ?_)
           | (go_at_call 40; refine (between_calls _ _ _ _).mono ?_; rintro e w' ⟨rfl, rfl⟩))
          go_quiet ((go_at_call 40; exact Calls.quiet_of_same (between_calls _ _ _ _)))
          go_wp2
          go_ret
          exact ⟨by rw [hnone.out (hact.out _ hst.out)]; rfl, by first | exact below_on hH.out.hb (below_1 _ _) | exact below_drewN (below_on hH.out.hb (below_1 _ _)) _⟩
        ·have hb1 : btw v 0 (locks - 1) = false := by simpa using hb
         have hst : Hid (actStep vars locks (p, q) ⟨4, v, n⟩ = none) := by show _ = _; simp [actStep, hb1]
         go_wp2_with (first
          | (refine wpList_load_mid rfl 60 _ rfl b (off + i * 3) (by first | rfl | (simp; done)) [.int .i64 4, .int .i64 v, .int .i64 n] _ hrrH.out Tryz.underlying60 rfl hld.out ?_)
          | (go_at_call 40; refine (between_calls _ _ _ _).mono ?_; rintro e w' ⟨rfl, rfl⟩))
         go_quiet ((go_at_call 40; exact Calls.quiet_of_same (between_calls _ _ _ _)))
         go_wp2
         go_ret
         exact ⟨by rw [hnone.out (hact.out _ hst.out)]; rfl, by first | exact below_on hH.out.hb (below_1 _ _) | exact below_drewN (below_on hH.out.hb (below_1 _ _)) _⟩
       ·have kb4 : (k == 4) = false := by simpa using k4
        by_cases k5 : k = 5
        ·subst k5
         by_cases hb : btw v 0 (locks - 1) = true
         ·by_cases hn0 : n = 0
          ·subst hn0
           have hv01 : v = 0 ∨ v = 1 := by simp [btw] at hb; omega
           rcases hv01 with rfl | rfl
           ·cases p
            ·have hst : Hid (actStep vars locks (false, q) ⟨5, 0, 0⟩ = none) := by show _ = _; simp [actStep, hb, heldAt]
             go_wp2_with (first
              | (refine wpList_load_mid rfl 60 _ rfl b (off + i * 3) (by first | rfl | (simp; done)) [.int .i64 5, .int .i64 0, .int .i64 0] _ hrrH.out Tryz.underlying60 rfl hld.out ?_)
              | (go_at_call 40; refine (between_calls _ _ _ _).mono ?_; rintro e w' ⟨rfl, rfl⟩))
             go_quiet ((go_at_call 40; exact Calls.quiet_of_same (between_calls _ _ _ _)))
             go_wp2
             go_ret
             exact ⟨by rw [hnone.out (hact.out _ hst.out)]; rfl, by first | exact below_on hH.out.hb (below_1 _ _) | exact below_drewN (below_on hH.out.hb (below_1 _ _)) _⟩
            ·have hst : Hid (actStep vars locks (true, q) ⟨5, 0, 0⟩ = some (false, q)) := by show _ = _; simp [actStep, hb, heldAt, heldSet]
             go_wp2_with (first
              | (refine wpList_load_mid rfl 60 _ rfl b (off + i * 3) (by first | rfl | (simp; done)) [.int .i64 5, .int .i64 0, .int .i64 0] _ hrrH.out Tryz.underlying60 rfl hld.out ?_)
              | (go_at_call 40; refine (between_calls _ _ _ _).mono ?_; rintro e w' ⟨rfl, rfl⟩))
             go_quiet ((go_at_call 40; exact Calls.quiet_of_same (between_calls _ _ _ _)))
             go_wp2
             go_roundw
             case rel => exact ⟨i + 1, false, q, by omega, by go_num, by first | exact (hH.out.on (below_1 _ _)).set0 _ | exact (hH.out.on (below_drewN (below_1 _ _) _)).set0 _, hsome.out _ (hact.out _ hst.out)⟩
             case measure => simp [intOf]; omega
           ·cases q
            ·have hst : Hid (actStep vars locks (p, false) ⟨5, 1, 0⟩ = none) := by show _ = _; simp [actStep, hb, heldAt]
             go_wp2_with (first
              | (refine wpList_load_mid rfl 60 _ rfl b (off + i * 3) (by first | rfl | (simp; done)) [.int .i64 5, .int .i64 1, .int .i64 0] _ hrrH.out Tryz.underlying60 rfl hld.out ?_)
              | (go_at_call 40; refine (between_calls _ _ _ _).mono ?_; rintro e w' ⟨rfl, rfl⟩))
             go_quiet ((go_at_call 40; exact Calls.quiet_of_same (between_calls _ _ _ _)))
             go_wp2
             go_ret
             exact ⟨by rw [hnone.out (hact.out _ hst.out)]; rfl, by first | exact below_on hH.out.hb (below_1 _ _) | exact below_drewN (below_on hH.out.hb (below_1 _ _)) _⟩
            ·have hst : Hid (actStep vars locks (p, true) ⟨5, 1, 0⟩ = some (p, false)) := by show _ = _; simp [actStep, hb, heldAt, heldSet]
             go_wp2_with (first
              | (refine wpList_load_mid rfl 60 _ rfl b (off + i * 3) (by first | rfl | (simp; done)) [.int .i64 5, .int .i64 1, .int .i64 0] _ hrrH.out Tryz.underlying60 rfl hld.out ?_)
              | (go_at_call 40; refine (between_calls _ _ _ _).mono ?_; rintro e w' ⟨rfl, rfl⟩))
             go_quiet ((go_at_call 40; exact Calls.quiet_of_same (between_calls _ _ _ _)))
             go_wp2
             go_roundw
             case rel => exact ⟨i + 1, p, false, by omega, by go_num, by first | exact (hH.out.on (below_1 _ _)).set1 _ | exact (hH.out.on (below_drewN (below_1 _ _) _)).set1 _, hsome.out _ (hact.out _ hst.out)⟩
             case measure => simp [intOf]; omega
          ·have hnb : (n != 0) = true := by simpa using hn0
           have hst : Hid (actStep vars locks (p, q) ⟨5, v, n⟩ = none) := by show _ = _; simp [actStep, hn0]
           go_wp2_with (first
            | (refine wpList_load_mid rfl 60 _ rfl b (off + i * 3) (by first | rfl | (simp; done)) [.int .i64 5, .int .i64 v, .int .i64 n] _ hrrH.out Tryz.underlying60 rfl hld.out ?_)
            | (go_at_call 40; refine (between_calls _ _ _ _).mono ?_; rintro e w' ⟨rfl, rfl⟩))
           go_quiet ((go_at_call 40; exact Calls.quiet_of_same (between_calls _ _ _ _)))
           go_wp2
           go_ret
           exact ⟨by rw [hnone.out (hact.out _ hst.out)]; rfl, by first | exact below_on hH.out.hb (below_1 _ _) | exact below_drewN (below_on hH.out.hb (below_1 _ _)) _⟩
         ·have hb1 : btw v 0 (locks - 1) = false := by simpa using hb
          have hst : Hid (actStep vars locks (p, q) ⟨5, v, n⟩ = none) := by show _ = _; simp [actStep, hb1]
          go_wp2_with (first
           | (refine wpList_load_mid rfl 60 _ rfl b (off + i * 3) (by first | rfl | (simp; done)) [.int .i64 5, .int .i64 v, .int .i64 n] _ hrrH.out Tryz.underlying60 rfl hld.out ?_)
           | (go_at_call 40; refine (between_calls _ _ _ _).mono ?_; rintro e w' ⟨rfl, rfl⟩))
          go_quiet ((go_at_call 40; exact Calls.quiet_of_same (between_calls _ _ _ _)))
          go_wp2
          go_ret
          exact ⟨by rw [hnone.out (hact.out _ hst.out)]; rfl, by first | exact below_on hH.out.hb (below_1 _ _) | exact below_drewN (below_on hH.out.hb (below_1 _ _)) _⟩
        ·have kb5 : (k == 5) = false := by simpa using k5
         have hst : Hid (actStep vars locks (p, q) ⟨k, v, n⟩ = none) := by show _ = _; simp [actStep, k1, k2, k3, k4, k5]
         go_wp2_with (first
          | (refine wpList_load_mid rfl 60 _ rfl b (off + i * 3) (by first | rfl | (simp; done)) [.int .i64 k, .int .i64 v, .int .i64 n] _ hrrH.out Tryz.underlying60 rfl hld.out ?_)
          | (go_at_call 40; refine (between_calls _ _ _ _).mono ?_; rintro e w' ⟨rfl, rfl⟩))
         go_ret
         exact ⟨by rw [hnone.out (hact.out _ hst.out)]; rfl, by first | exact below_on hH.out.hb (below_1 _ _) | exact below_drewN (below_on hH.out.hb (below_1 _ _)) _⟩
   ·have hie : i = acts.length := by omega
    obtain ⟨hb, hsz, c0, c2, d0, d1, f0, f1⟩ := hH.out
    have hT2 : Hid (tb = (!p && !q)) := by have := hT.out; rw [hie, List.drop_length] at this; exact this
    clear hT
    cases p <;> cases q
    all_goals
     go_wp2
     go_ret
     exact ⟨by rw [hT2.out]; rfl, hb⟩
 ·have htb : Hid (threadB vars locks acts = false) := by show _ = _; simp [threadB, hlen]
  have hgt : (4 : Int) < acts.length := by omega
  go_enter Tryz.func41, Tryz.ntmps41
  go_wp2
  go_ret
  exact ⟨by rw [htb.out]; rfl, below_1 _ _⟩
end Go.Proofs.YtknbchheoloaoaaGreat
