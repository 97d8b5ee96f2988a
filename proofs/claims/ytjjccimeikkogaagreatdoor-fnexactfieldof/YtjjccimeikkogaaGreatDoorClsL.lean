import Derived.Test.YtjjccimeikkogaaGreatDoorClsG0
import Derived.Test.YtjjccimeikkogaaGreatDoorMethH
import Derived.Deep.DeepCutAuto
set_option maxRecDepth 1000000
set_option maxHeartbeats 8000000
namespace Go.Proofs.YtjjccimeikkogaaGreatDoor
set_option linter.unusedVariables false
open Go.ChangeShapes Go.WideShapes Go.ChangeAt Go.RowKit
def methC (g : Int) (x : MethL) : Bool := !(!methS x || (hasB x.flags 4 && !hasB g 4)) && !(hasB g 128 && ((x.name.toList == [110, 101, 119]) || hasB x.flags 34))
def methsS (g : Int) (xs : List MethL) : Bool := !decide ((40 : Int) < xs.length) && fresh (methC g) methKey [] xs
theorem isvar125 : isVar Tryz.prog 177 = true := by kernel_rfl
theorem key_eq (y x : MethL) (hy : y.small) (hx : x.small) : decide (methKey y = methKey x) = ((y.name.toList == x.name.toList) && (y.sig.toList == x.sig.toList)) := by
 have hi : methKey y = methKey x ↔ (y.name.data.toList = x.name.data.toList ∧ y.sig.data.toList = x.sig.data.toList) := by
  constructor
  ·intro h
   have h1 := pairLit_key y.name y.sig (by unfold maxLen; have := hy.1; omega) (by unfold maxLen; have := hy.2.1; omega)
   have h2 := pairLit_key x.name x.sig (by unfold maxLen; have := hx.1; omega) (by unfold maxLen; have := hx.2.1; omega)
   have h3 : pairLit y.name y.sig = pairLit x.name x.sig := h
   rw [h3] at h1
   have h4 := keyOf_inj_deep (m := 2) (tiled_of_laidOut laidOut_prog 2 177 isvar125 key125) wide125 h1 h2
   injection h4 with h5
   injection (Array.mk.inj h5) with h6 h7
   injection h6 with h8
   injection h7 with h9 _
   injection h9 with h10
   rw [h8, h10]
   exact ⟨rfl, rfl⟩
  ·rintro ⟨h1, h2⟩
   unfold methKey pairLit
   rw [h1, h2]
 rw [Bool.eq_iff_iff, decide_eq_true_iff, hi, Bool.and_eq_true, beq_iff_eq, beq_iff_eq, ByteArray.toList_eq, ByteArray.toList_eq, ByteArray.toList_eq, ByteArray.toList_eq]
theorem l2MethodsOk_walk (N S : ByteArray) (f : Int) (a1 : Option Addr) (n1 c1 : Nat) (a2 : Option Addr) (n2 c2 : Nat) (a3 : Option Addr) (n3 c3 : Nat) (a4 : Option Addr) (n4 c4 : Nat) (w : World) (xs : List MethL) (lo hi : Nat) (hh : hi ≤ w.heap.size) (ht : ListAt MethR 9 true lo hi w (.slice a4 n4 c4) xs) (hx : xs.length = n4) (hn : n4 ≤ 1048576) (hs : ∀ x ∈ xs, x.small) :
  Calls Tryz.prog 106 #[.agg #[.string N, .string S, .slice a1 n1 c1, .int .i64 f, .slice a2 n2 c2, .slice a3 n3 c3, .slice a4 n4 c4]] w fun e w' => e = .returned (.bool (methsS f xs)) ∧ Below w.heap.size w w' := by
 have htH : Hid (∀ W, Below w.heap.size w W → ListAt MethR 9 true lo hi W (.slice a4 n4 c4) xs) := fun W hW => ht.kept MethR.stable (Nat.le_refl _) (Nat.le_refl _) ((Same.below hW).mono (Nat.zero_le _) hh)
 have hsH : Hid (∀ x ∈ xs, x.small) := hs
 have hxH : Hid (xs.length = n4) := hx
 have hhH : Hid (hi ≤ w.heap.size) := hh
 have fH : Hid (∀ h g W, Calls Tryz.prog 96 #[.int .i64 h, .int .i64 g] W fun e w' => e = .returned (.bool (hasB h g)) ∧ w' = W) := fun h g W => l2Has_calls h g W
 obtain ⟨R, hR⟩ : ∃ R, methsS f xs = R := ⟨_, rfl⟩
 rw [hR]
 unfold methsS at hR
 rw [hx] at hR
 by_cases h40 : (40 : Int) < n4
 ·rw [decide_eq_true h40] at hR
  have hR : R = false := hR.symm
  subst hR
  clear ht hs hx hh
  go_enter Tryz.func106, Tryz.ntmps106
  go_wp2
  go_ret
  exact ⟨rfl, below_1 _ _⟩
 rw [decide_eq_false h40] at hR
 have hRH : Hid (fresh (methC f) methKey [] xs = R) := by simpa [Hid] using hR
 clear hR ht hs hx hh
 go_enter Tryz.func106, Tryz.ntmps106
 go_wp2
 go_loopw [3] (fun i wr => ∃ m : Nat, m ≤ n4 ∧ i = .int .i64 m ∧ Hid (fresh (methC f) methKey (xs.take m) (xs.drop m) = R) ∧ Hid (Rec1 w wr [.string N, .string S, .slice a1 n1 c1, .int .i64 f, .slice a2 n2 c2, .slice a3 n3 c3, .slice a4 n4 c4])) (fun i _ => n4 - (intOf i).toNat)
 case atStart => exact ⟨0, Nat.zero_le _, rfl, hRH.out, Rec1.start rfl⟩
 case round =>
  rename World => wo
  obtain ⟨m, hm, rfl, hz, hB⟩ := hrel
  have y6 := hB.out.cell 6 _ rfl
  by_cases hlt : m < n4
  ·have hltx : m < xs.length := by rw [hxH.out]; exact hlt
   obtain ⟨b, off, row, rfl, hbb, hrl, hrr, hrx⟩ := (htH.out wo hB.out.hb).at m hltx
   have hlt' : (m : Int) < (n4 : Int) := by omega
   have hstep := fresh_step (methC f) methKey xs m hltx
   rw [hz.out] at hstep
   have hsm := hsH.out _ (List.getElem_mem hltx)
   obtain ⟨x, hxm⟩ : ∃ x, x = xs[m] := ⟨_, rfl⟩
   rw [← hxm] at hrx hstep hsm
   have hbl : Hid (b < wo.heap.size) := by have := hhH.out; have := hB.out.hb.size; show b < wo.heap.size; omega
   have mH : Hid (∀ W, Below wo.heap.size wo W → Calls Tryz.prog 137 #[.agg row.toArray] W fun e w' => e = .returned (.bool (methS x)) ∧ Below W.heap.size W w') := fun W hW =>
    specMethod_calls x W row lo hi (by have := hhH.out; have := hB.out.hb.size; have := hW.size; omega) (MethR.stable _ _ _ _ _ _ _ _ _ hrx (Nat.le_refl _) (Nat.le_refl _) ((Same.below hW).mono (Nat.zero_le _) (by have := hhH.out; have := hB.out.hb.size; omega))) hsm
   have hsmH : Hid x.small := hsm
   obtain ⟨g1, g2, g3, g4, rfl, f1, f2, f3, f4⟩ := hrx
   obtain ⟨p1, k1, rfl⟩ := f1.form
   obtain ⟨p2, k2, rfl⟩ := f2.form
   obtain ⟨p3, k3, rfl⟩ := f3.form
   obtain ⟨p4, k4, rfl⟩ := f4.form
   clear f1 f2 f3 f4 hsm
   generalize x.code.length = m1 at *
   generalize x.hands.length = m2 at *
   generalize x.frames.length = m3 at *
   generalize x.lines.length = m4 at *
   have e0 : wo.cell? ⟨b, off + m * 9, none⟩ = some (.string x.name) := hrr 0 _ rfl
   have e1 : wo.cell? ⟨b, off + m * 9 + 1, none⟩ = some (.string x.sig) := hrr 1 _ rfl
   have e2 : wo.cell? ⟨b, off + m * 9 + 2, none⟩ = some (.int .i64 x.flags) := hrr 2 _ rfl
   have e3 : wo.cell? ⟨b, off + m * 9 + 3, none⟩ = some (.int .i64 x.stack) := hrr 3 _ rfl
   have e4 : wo.cell? ⟨b, off + m * 9 + 4, none⟩ = some (.int .i64 x.locals) := hrr 4 _ rfl
   have e5 : wo.cell? ⟨b, off + m * 9 + 5, none⟩ = some (.slice p1 m1 k1) := hrr 5 _ rfl
   have e6 : wo.cell? ⟨b, off + m * 9 + 6, none⟩ = some (.slice p2 m2 k2) := hrr 6 _ rfl
   have e7 : wo.cell? ⟨b, off + m * 9 + 7, none⟩ = some (.slice p3 m3 k3) := hrr 7 _ rfl
   have e8 : wo.cell? ⟨b, off + m * 9 + 8, none⟩ = some (.slice p4 m4 k4) := hrr 8 _ rfl
   have cjH : Hid (∀ j (hj : j < m), wo.cell? ⟨b, off + j * 9, none⟩ = some (.string (xs[j]'(by omega)).name) ∧ wo.cell? ⟨b, off + j * 9 + 1, none⟩ = some (.string (xs[j]'(by omega)).sig)) := fun j hj => by
    obtain ⟨b2, off2, row2, h1, _, h3, h4, h5⟩ := (htH.out wo hB.out.hb).at j (by omega)
    obtain ⟨rfl, rfl⟩ : b = b2 ∧ off = off2 := by simpa using h1
    obtain ⟨_, _, _, _, rfl, _⟩ := h5
    exact ⟨h4 0 _ rfl, h4 1 _ rfl⟩
   obtain ⟨ok, hok⟩ : ∃ ok, methC f x = ok := ⟨_, rfl⟩
   obtain ⟨A, hA⟩ : ∃ A, ((xs.take m).any fun y => decide (methKey y = methKey x)) = A := ⟨_, rfl⟩
   obtain ⟨FR, hFR⟩ : ∃ FR, fresh (methC f) methKey (xs.take (m + 1)) (xs.drop (m + 1)) = FR := ⟨_, rfl⟩
   rw [hok, hA, hFR] at hstep
   have hstepH : Hid (R = (ok && (!A && FR))) := hstep
   have hAH : Hid (((xs.take m).any fun y => decide (methKey y = methKey x)) = A) := hA
   have hFRH : Hid (fresh (methC f) methKey (xs.take (m + 1)) (xs.drop (m + 1)) = FR) := hFR
   unfold methC at hok
   generalize methS x = sb at *
   clear hstep hA hFR hz hxm hrr hrl hbb
   obtain ⟨wA, hwA⟩ : ∃ wA : World, wA = wo.alloc (.cells #[.string x.name, .string x.sig, .int .i64 x.flags, .int .i64 x.stack, .int .i64 x.locals, .slice p1 m1 k1, .slice p2 m2 k2, .slice p3 m3 k3, .slice p4 m4 k4] 91) := ⟨_, rfl⟩
   have hBn : Hid (Rec1 w wA [.string N, .string S, .slice a1 n1 c1, .int .i64 f, .slice a2 n2 c2, .slice a3 n3 c3, .slice (some ⟨b, off, none⟩) n4 c4]) := by rw [hwA]; exact hB.out.call (below_1 _ _)
   have hbA : Hid (Below wo.heap.size wo wA) := by rw [hwA]; exact below_1 _ _
   have hrA : Hid (wA.rangeAt wo.heap.size 0 [.string x.name, .string x.sig, .int .i64 x.flags, .int .i64 x.stack, .int .i64 x.locals, .slice p1 m1 k1, .slice p2 m2 k2, .slice p3 m3 k3, .slice p4 m4 k4]) := by rw [hwA]; exact rangeAt_heap (heap_alloc_new wo _)
   have hzA : Hid (wo.heap.size < wA.heap.size) := by rw [hwA]; simp [Hid]
   go_wp2_with fail
   rw [← hwA]
   clear hwA e0 e1 e2 e3 e4 e5 e6 e7 e8 y6
   refine (mH.out wA hbA.out).mono ?_
   rintro e wB ⟨rfl, hbB⟩
   have hBB : Hid (Rec1 w wB [.string N, .string S, .slice a1 n1 c1, .int .i64 f, .slice a2 n2 c2, .slice a3 n3 c3, .slice (some ⟨b, off, none⟩) n4 c4]) := hBn.out.call hbB
   have hoB : Hid (Below wo.heap.size wo wB) := below_on2 hbA.out hbB
   have hrB : Hid (wB.rangeAt wo.heap.size 0 [.string x.name, .string x.sig, .int .i64 x.flags, .int .i64 x.stack, .int .i64 x.locals, .slice p1 m1 k1, .slice p2 m2 k2, .slice p3 m3 k3, .slice p4 m4 k4]) := rangeAt_same (Same.below hbB) (Nat.zero_le _) hzA.out hrA.out
   have v0 : wB.cell? ⟨wo.heap.size, 0, none⟩ = some (.string x.name) := hrB.out 0 _ rfl
   have v1 : wB.cell? ⟨wo.heap.size, 1, none⟩ = some (.string x.sig) := hrB.out 1 _ rfl
   have v2 : wB.cell? ⟨wo.heap.size, 2, none⟩ = some (.int .i64 x.flags) := hrB.out 2 _ rfl
   have z3 := hBB.out.cell 3 _ rfl
   have z6 := hBB.out.cell 6 _ rfl
   clear hbB
   cases sb with
   | false =>
    have hRf : R = false := by rw [hstepH.out, ← hok]; rfl
    subst hRf
    clear hok
    go_wp2_with (go_at_call 96; refine (fH.out _ _ _).mono ?_; rintro e w2 ⟨rfl, hw2⟩; subst w2)
    go_ret
    exact ⟨rfl, hBB.out.hb⟩
   | true =>
    cases h4 : hasB x.flags 4 <;> rw [h4] at hok
    ·skip
     cases h8 : hasB f 128 <;> rw [h8] at hok
     ·skip
      have hRt : Hid (R = (!A && FR)) := by show R = _; rw [hstepH.out, ← hok]; rfl
      clear hok hstepH
      go_wp2_with (go_at_call 96; refine (fH.out _ _ _).mono ?_; rintro e w2 ⟨rfl, hw2⟩; subst w2)
      go_loopw [5] (fun i wr => ∃ j d : Nat, j ≤ m ∧ i = .int .i64 j ∧ Hid ((((xs.take m).drop j).any fun y => decide (methKey y = methKey x)) = A) ∧ Hid (wr = wB.drewN d)) (fun i _ => m - (intOf i).toNat)
      case atStart => exact ⟨0, 0, Nat.zero_le _, rfl, hAH.out, rfl⟩
      case round =>
       obtain ⟨j, d, hj, rfl, hz, hw⟩ := hrel
       have q6 : wr.cell? ⟨w.heap.size, 6, none⟩ = some (.slice (some ⟨b, off, none⟩) n4 c4) := by rw [hw.out]; exact z6
       have q0 : wr.cell? ⟨wo.heap.size, 0, none⟩ = some (.string x.name) := by rw [hw.out]; exact v0
       have q1 : wr.cell? ⟨wo.heap.size, 1, none⟩ = some (.string x.sig) := by rw [hw.out]; exact v1
       clear z3 z6 v0 v1 v2
       by_cases hjm : j < m
       ·have hjn : (j : Int) < (n4 : Int) := by omega
        have hjm' : (j : Int) < (m : Int) := by omega
        have hjx : j < xs.length := by have := hxH.out; omega
        have hcj : wr.cell? ⟨b, off + j * 9, none⟩ = some (.string xs[j].name) := by
         rw [hw.out]
         exact (hoB.out.cell (p := ⟨b, off + j * 9, none⟩) hbl.out).trans (cjH.out j hjm).1
        have hck : wr.cell? ⟨b, off + j * 9 + 1, none⟩ = some (.string xs[j].sig) := by
         rw [hw.out]
         exact (hoB.out.cell (p := ⟨b, off + j * 9 + 1, none⟩) hbl.out).trans (cjH.out j hjm).2
        have hst2 := any_step (fun y : MethL => decide (methKey y = methKey x)) xs m j hjm (by omega)
        rw [hz.out, key_eq xs[j] x (hsH.out _ (List.getElem_mem hjx)) hsmH.out] at hst2
        obtain ⟨s, hs⟩ : ∃ s, s = xs[j].name := ⟨_, rfl⟩
        obtain ⟨u, hu⟩ : ∃ u, u = xs[j].sig := ⟨_, rfl⟩
        rw [← hs] at hcj hst2
        rw [← hu] at hck hst2
        have hst2H : Hid (A = (((s.toList == x.name.toList) && (u.toList == x.sig.toList)) || (((xs.take m).drop (j + 1)).any fun y => decide (methKey y = methKey x)))) := hst2
        clear hst2 hs hu hz
        cases he : (s.toList == x.name.toList) <;> cases hg : (u.toList == x.sig.toList) <;> rw [he, hg] at hst2H
        case' true.true =>
         go_wp2
         go_quiet (fail)
         go_wp2
         go_ret
         exact ⟨by rw [hRt.out, hst2H.out]; rfl, by rw [hw.out]; exact below_drewN (below_drewN hBB.out.hb _) _⟩
        all_goals (
         go_wp2
         go_quiet (fail)
         go_wp2
         go_roundw
         case rel => exact ⟨j + 1, _, by omega, by go_num, (show _ = A by rw [hst2H.out]; rfl), (by rw [hw.out]; exact drewN_all _ _ _)⟩
         case measure => simp [intOf]; omega)
       ·have hA0 : A = false := by rw [← hz.out]; exact any_done _ xs m j hjm
        subst hA0
        go_wp2
        go_roundw
        case rel => exact ⟨m + 1, by omega, by go_num, (show _ = R by rw [hRt.out, hFRH.out]; rfl), (by rw [hw.out]; exact hBB.out.drew _)⟩
        case measure => simp [intOf]; omega
     ·cases hn : (x.name.toList == [110, 101, 119]) <;> rw [hn] at hok
      ·cases h34 : hasB x.flags 34 <;> rw [h34] at hok
       ·skip
        have hRt : Hid (R = (!A && FR)) := by show R = _; rw [hstepH.out, ← hok]; rfl
        clear hok hstepH
        go_wp2_with (go_at_call 96; refine (fH.out _ _ _).mono ?_; rintro e w2 ⟨rfl, hw2⟩; subst w2)
        go_loopw [5] (fun i wr => ∃ j d : Nat, j ≤ m ∧ i = .int .i64 j ∧ Hid ((((xs.take m).drop j).any fun y => decide (methKey y = methKey x)) = A) ∧ Hid (wr = wB.drewN d)) (fun i _ => m - (intOf i).toNat)
        case atStart => exact ⟨0, 0, Nat.zero_le _, rfl, hAH.out, rfl⟩
        case round =>
         obtain ⟨j, d, hj, rfl, hz, hw⟩ := hrel
         have q6 : wr.cell? ⟨w.heap.size, 6, none⟩ = some (.slice (some ⟨b, off, none⟩) n4 c4) := by rw [hw.out]; exact z6
         have q0 : wr.cell? ⟨wo.heap.size, 0, none⟩ = some (.string x.name) := by rw [hw.out]; exact v0
         have q1 : wr.cell? ⟨wo.heap.size, 1, none⟩ = some (.string x.sig) := by rw [hw.out]; exact v1
         clear z3 z6 v0 v1 v2
         by_cases hjm : j < m
         ·have hjn : (j : Int) < (n4 : Int) := by omega
          have hjm' : (j : Int) < (m : Int) := by omega
          have hjx : j < xs.length := by have := hxH.out; omega
          have hcj : wr.cell? ⟨b, off + j * 9, none⟩ = some (.string xs[j].name) := by
           rw [hw.out]
           exact (hoB.out.cell (p := ⟨b, off + j * 9, none⟩) hbl.out).trans (cjH.out j hjm).1
          have hck : wr.cell? ⟨b, off + j * 9 + 1, none⟩ = some (.string xs[j].sig) := by
           rw [hw.out]
           exact (hoB.out.cell (p := ⟨b, off + j * 9 + 1, none⟩) hbl.out).trans (cjH.out j hjm).2
          have hst2 := any_step (fun y : MethL => decide (methKey y = methKey x)) xs m j hjm (by omega)
          rw [hz.out, key_eq xs[j] x (hsH.out _ (List.getElem_mem hjx)) hsmH.out] at hst2
          obtain ⟨s, hs⟩ : ∃ s, s = xs[j].name := ⟨_, rfl⟩
          obtain ⟨u, hu⟩ : ∃ u, u = xs[j].sig := ⟨_, rfl⟩
          rw [← hs] at hcj hst2
          rw [← hu] at hck hst2
          have hst2H : Hid (A = (((s.toList == x.name.toList) && (u.toList == x.sig.toList)) || (((xs.take m).drop (j + 1)).any fun y => decide (methKey y = methKey x)))) := hst2
          clear hst2 hs hu hz
          cases he : (s.toList == x.name.toList) <;> cases hg : (u.toList == x.sig.toList) <;> rw [he, hg] at hst2H
          case' true.true =>
           go_wp2
           go_quiet (fail)
           go_wp2
           go_ret
           exact ⟨by rw [hRt.out, hst2H.out]; rfl, by rw [hw.out]; exact below_drewN (below_drewN hBB.out.hb _) _⟩
          all_goals (
           go_wp2
           go_quiet (fail)
           go_wp2
           go_roundw
           case rel => exact ⟨j + 1, _, by omega, by go_num, (show _ = A by rw [hst2H.out]; rfl), (by rw [hw.out]; exact drewN_all _ _ _)⟩
           case measure => simp [intOf]; omega)
         ·have hA0 : A = false := by rw [← hz.out]; exact any_done _ xs m j hjm
          subst hA0
          go_wp2
          go_roundw
          case rel => exact ⟨m + 1, by omega, by go_num, (show _ = R by rw [hRt.out, hFRH.out]; rfl), (by rw [hw.out]; exact hBB.out.drew _)⟩
          case measure => simp [intOf]; omega
       ·skip
        have hRf : R = false := by rw [hstepH.out, ← hok]; rfl
        subst hRf
        clear hok
        go_wp2_with (go_at_call 96; refine (fH.out _ _ _).mono ?_; rintro e w2 ⟨rfl, hw2⟩; subst w2)
        go_ret
        exact ⟨rfl, hBB.out.hb⟩
      ·skip
       have hRf : R = false := by rw [hstepH.out, ← hok]; rfl
       subst hRf
       clear hok
       go_wp2_with (go_at_call 96; refine (fH.out _ _ _).mono ?_; rintro e w2 ⟨rfl, hw2⟩; subst w2)
       go_ret
       exact ⟨rfl, hBB.out.hb⟩
    ·cases g4 : hasB f 4 <;> rw [g4] at hok
     ·skip
      have hRf : R = false := by rw [hstepH.out, ← hok]; rfl
      subst hRf
      clear hok
      go_wp2_with (go_at_call 96; refine (fH.out _ _ _).mono ?_; rintro e w2 ⟨rfl, hw2⟩; subst w2)
      go_ret
      exact ⟨rfl, hBB.out.hb⟩
     ·skip
      cases h8 : hasB f 128 <;> rw [h8] at hok
      ·skip
       have hRt : Hid (R = (!A && FR)) := by show R = _; rw [hstepH.out, ← hok]; rfl
       clear hok hstepH
       go_wp2_with (go_at_call 96; refine (fH.out _ _ _).mono ?_; rintro e w2 ⟨rfl, hw2⟩; subst w2)
       go_loopw [5] (fun i wr => ∃ j d : Nat, j ≤ m ∧ i = .int .i64 j ∧ Hid ((((xs.take m).drop j).any fun y => decide (methKey y = methKey x)) = A) ∧ Hid (wr = wB.drewN d)) (fun i _ => m - (intOf i).toNat)
       case atStart => exact ⟨0, 0, Nat.zero_le _, rfl, hAH.out, rfl⟩
       case round =>
        obtain ⟨j, d, hj, rfl, hz, hw⟩ := hrel
        have q6 : wr.cell? ⟨w.heap.size, 6, none⟩ = some (.slice (some ⟨b, off, none⟩) n4 c4) := by rw [hw.out]; exact z6
        have q0 : wr.cell? ⟨wo.heap.size, 0, none⟩ = some (.string x.name) := by rw [hw.out]; exact v0
        have q1 : wr.cell? ⟨wo.heap.size, 1, none⟩ = some (.string x.sig) := by rw [hw.out]; exact v1
        clear z3 z6 v0 v1 v2
        by_cases hjm : j < m
        ·have hjn : (j : Int) < (n4 : Int) := by omega
         have hjm' : (j : Int) < (m : Int) := by omega
         have hjx : j < xs.length := by have := hxH.out; omega
         have hcj : wr.cell? ⟨b, off + j * 9, none⟩ = some (.string xs[j].name) := by
          rw [hw.out]
          exact (hoB.out.cell (p := ⟨b, off + j * 9, none⟩) hbl.out).trans (cjH.out j hjm).1
         have hck : wr.cell? ⟨b, off + j * 9 + 1, none⟩ = some (.string xs[j].sig) := by
          rw [hw.out]
          exact (hoB.out.cell (p := ⟨b, off + j * 9 + 1, none⟩) hbl.out).trans (cjH.out j hjm).2
         have hst2 := any_step (fun y : MethL => decide (methKey y = methKey x)) xs m j hjm (by omega)
         rw [hz.out, key_eq xs[j] x (hsH.out _ (List.getElem_mem hjx)) hsmH.out] at hst2
         obtain ⟨s, hs⟩ : ∃ s, s = xs[j].name := ⟨_, rfl⟩
         obtain ⟨u, hu⟩ : ∃ u, u = xs[j].sig := ⟨_, rfl⟩
         rw [← hs] at hcj hst2
         rw [← hu] at hck hst2
         have hst2H : Hid (A = (((s.toList == x.name.toList) && (u.toList == x.sig.toList)) || (((xs.take m).drop (j + 1)).any fun y => decide (methKey y = methKey x)))) := hst2
         clear hst2 hs hu hz
         cases he : (s.toList == x.name.toList) <;> cases hg : (u.toList == x.sig.toList) <;> rw [he, hg] at hst2H
         case' true.true =>
          go_wp2
          go_quiet (fail)
          go_wp2
          go_ret
          exact ⟨by rw [hRt.out, hst2H.out]; rfl, by rw [hw.out]; exact below_drewN (below_drewN hBB.out.hb _) _⟩
         all_goals (
          go_wp2
          go_quiet (fail)
          go_wp2
          go_roundw
          case rel => exact ⟨j + 1, _, by omega, by go_num, (show _ = A by rw [hst2H.out]; rfl), (by rw [hw.out]; exact drewN_all _ _ _)⟩
          case measure => simp [intOf]; omega)
        ·have hA0 : A = false := by rw [← hz.out]; exact any_done _ xs m j hjm
         subst hA0
         go_wp2
         go_roundw
         case rel => exact ⟨m + 1, by omega, by go_num, (show _ = R by rw [hRt.out, hFRH.out]; rfl), (by rw [hw.out]; exact hBB.out.drew _)⟩
         case measure => simp [intOf]; omega
      ·cases hn : (x.name.toList == [110, 101, 119]) <;> rw [hn] at hok
       ·cases h34 : hasB x.flags 34 <;> rw [h34] at hok
        ·skip
         have hRt : Hid (R = (!A && FR)) := by show R = _; rw [hstepH.out, ← hok]; rfl
         clear hok hstepH
         go_wp2_with (go_at_call 96; refine (fH.out _ _ _).mono ?_; rintro e w2 ⟨rfl, hw2⟩; subst w2)
         go_loopw [5] (fun i wr => ∃ j d : Nat, j ≤ m ∧ i = .int .i64 j ∧ Hid ((((xs.take m).drop j).any fun y => decide (methKey y = methKey x)) = A) ∧ Hid (wr = wB.drewN d)) (fun i _ => m - (intOf i).toNat)
         case atStart => exact ⟨0, 0, Nat.zero_le _, rfl, hAH.out, rfl⟩
         case round =>
          obtain ⟨j, d, hj, rfl, hz, hw⟩ := hrel
          have q6 : wr.cell? ⟨w.heap.size, 6, none⟩ = some (.slice (some ⟨b, off, none⟩) n4 c4) := by rw [hw.out]; exact z6
          have q0 : wr.cell? ⟨wo.heap.size, 0, none⟩ = some (.string x.name) := by rw [hw.out]; exact v0
          have q1 : wr.cell? ⟨wo.heap.size, 1, none⟩ = some (.string x.sig) := by rw [hw.out]; exact v1
          clear z3 z6 v0 v1 v2
          by_cases hjm : j < m
          ·have hjn : (j : Int) < (n4 : Int) := by omega
           have hjm' : (j : Int) < (m : Int) := by omega
           have hjx : j < xs.length := by have := hxH.out; omega
           have hcj : wr.cell? ⟨b, off + j * 9, none⟩ = some (.string xs[j].name) := by
            rw [hw.out]
            exact (hoB.out.cell (p := ⟨b, off + j * 9, none⟩) hbl.out).trans (cjH.out j hjm).1
           have hck : wr.cell? ⟨b, off + j * 9 + 1, none⟩ = some (.string xs[j].sig) := by
            rw [hw.out]
            exact (hoB.out.cell (p := ⟨b, off + j * 9 + 1, none⟩) hbl.out).trans (cjH.out j hjm).2
           have hst2 := any_step (fun y : MethL => decide (methKey y = methKey x)) xs m j hjm (by omega)
           rw [hz.out, key_eq xs[j] x (hsH.out _ (List.getElem_mem hjx)) hsmH.out] at hst2
           obtain ⟨s, hs⟩ : ∃ s, s = xs[j].name := ⟨_, rfl⟩
           obtain ⟨u, hu⟩ : ∃ u, u = xs[j].sig := ⟨_, rfl⟩
           rw [← hs] at hcj hst2
           rw [← hu] at hck hst2
           have hst2H : Hid (A = (((s.toList == x.name.toList) && (u.toList == x.sig.toList)) || (((xs.take m).drop (j + 1)).any fun y => decide (methKey y = methKey x)))) := hst2
           clear hst2 hs hu hz
           cases he : (s.toList == x.name.toList) <;> cases hg : (u.toList == x.sig.toList) <;> rw [he, hg] at hst2H
           case' true.true =>
            go_wp2
            go_quiet (fail)
            go_wp2
            go_ret
            exact ⟨by rw [hRt.out, hst2H.out]; rfl, by rw [hw.out]; exact below_drewN (below_drewN hBB.out.hb _) _⟩
           all_goals (
            go_wp2
            go_quiet (fail)
            go_wp2
            go_roundw
            case rel => exact ⟨j + 1, _, by omega, by go_num, (show _ = A by rw [hst2H.out]; rfl), (by rw [hw.out]; exact drewN_all _ _ _)⟩
            case measure => simp [intOf]; omega)
          ·have hA0 : A = false := by rw [← hz.out]; exact any_done _ xs m j hjm
           subst hA0
           go_wp2
           go_roundw
           case rel => exact ⟨m + 1, by omega, by go_num, (show _ = R by rw [hRt.out, hFRH.out]; rfl), (by rw [hw.out]; exact hBB.out.drew _)⟩
           case measure => simp [intOf]; omega
        ·skip
         have hRf : R = false := by rw [hstepH.out, ← hok]; rfl
         subst hRf
         clear hok
         go_wp2_with (go_at_call 96; refine (fH.out _ _ _).mono ?_; rintro e w2 ⟨rfl, hw2⟩; subst w2)
         go_ret
         exact ⟨rfl, hBB.out.hb⟩
       ·skip
        have hRf : R = false := by rw [hstepH.out, ← hok]; rfl
        subst hRf
        clear hok
        go_wp2_with (go_at_call 96; refine (fH.out _ _ _).mono ?_; rintro e w2 ⟨rfl, hw2⟩; subst w2)
        go_ret
        exact ⟨rfl, hBB.out.hb⟩
  ·have hend := hz.out
   rw [List.drop_eq_nil_of_le (by rw [hxH.out]; omega)] at hend
   have hR : R = true := hend.symm
   subst hR
   clear hend
   go_wp2
   go_ret
   exact ⟨rfl, hB.out.hb⟩
theorem asc_one (ps : List ByteArray) : ascFrom (ahead ps 1) (ps.drop 1) = ascFrom none ps := by
 cases ps <;> rfl
theorem nil_beqM (l : List UInt8) : (l == []) = l.isEmpty := by cases l <;> rfl
theorem specClass_walk (N S : ByteArray) (f : Int) (a1 : Option Addr) (n1 c1 : Nat) (a2 : Option Addr) (n2 c2 : Nat) (a3 : Option Addr) (n3 c3 : Nat) (a4 : Option Addr) (n4 c4 : Nat) (w : World) (nm : ByteArray → Bool) (nf : Value → Bool) (gb fs ms : Bool) (ps : List ByteArray) (lo hi : Nat) (hh : hi ≤ w.heap.size)
  (hN : N.size ≤ 1048576) (hS : S.size ≤ 1048576) (h2n : n2 ≤ 1048576) (hps : ps.length = n2) (ht : ListAt StrR 1 true lo hi w (.slice a2 n2 c2) ps)
  (q1 : ∀ s W, s.size ≤ 1048576 → Calls Tryz.prog 90 #[.string s] W fun e w' => e = .returned (.bool (nm s)) ∧ w' = W)
  (q2 : ∀ v W, (v = .slice a1 n1 c1 ∨ v = .slice a2 n2 c2) → Below w.heap.size w W → Calls Tryz.prog 103 #[v] W fun e w' => e = .returned (.bool (nf v)) ∧ ∃ n, w' = W.drewN n)
  (q3 : ∀ W, Calls Tryz.prog 104 #[.int .i64 f, .int .i64 390] W fun e w' => e = .returned (.bool gb) ∧ w' = W)
  (q4 : ∀ W, Below w.heap.size w W → Calls Tryz.prog 105 #[.agg #[.string N, .string S, .slice a1 n1 c1, .int .i64 f, .slice a2 n2 c2, .slice a3 n3 c3, .slice a4 n4 c4]] W fun e w' => e = .returned (.bool fs) ∧ Below W.heap.size W w')
  (q5 : ∀ W, Below w.heap.size w W → Calls Tryz.prog 106 #[.agg #[.string N, .string S, .slice a1 n1 c1, .int .i64 f, .slice a2 n2 c2, .slice a3 n3 c3, .slice a4 n4 c4]] W fun e w' => e = .returned (.bool ms) ∧ Below W.heap.size W w') :
  Calls Tryz.prog 71 #[.agg #[.string N, .string S, .slice a1 n1 c1, .int .i64 f, .slice a2 n2 c2, .slice a3 n3 c3, .slice a4 n4 c4]] w fun e w' => e = .returned (.bool (!(!nm N || (((S.toList == []) != (N.toList == [79, 98, 106, 101, 99, 116])) || (!(S.toList == []) && !nm S))) && (!(!nf (.slice a1 n1 c1) || (!nf (.slice a2 n2 c2) || (!gb || (hasB f 256 != decide ((0 : Int) < n2))))) && (ascFrom none ps && (!(hasB f 2 && hasB f 260) && (!(hasB f 128 && (!hasB f 4 || !(S.toList == [79, 98, 106, 101, 99, 116]))) && (fs && ms))))))) ∧ Below w.heap.size w w' := by
 have nH : Hid (∀ s W, s.size ≤ 1048576 → Calls Tryz.prog 90 #[.string s] W fun e w' => e = .returned (.bool (nm s)) ∧ w' = W) := q1
 have kH : Hid (∀ v n, (v = .slice a1 n1 c1 ∨ v = .slice a2 n2 c2) → Calls Tryz.prog 103 #[v] ((w.alloc (.cells #[.string N, .string S, .slice a1 n1 c1, .int .i64 f, .slice a2 n2 c2, .slice a3 n3 c3, .slice a4 n4 c4] 49)).drewN n) fun e w' => e = .returned (.bool (nf v)) ∧ ∃ k, w' = ((w.alloc (.cells #[.string N, .string S, .slice a1 n1 c1, .int .i64 f, .slice a2 n2 c2, .slice a3 n3 c3, .slice a4 n4 c4] 49)).drewN n).drewN k) := fun v n hv => q2 v _ hv (below_drewN (below_1 _ _) n)
 have gH : Hid (∀ W, Calls Tryz.prog 104 #[.int .i64 f, .int .i64 390] W fun e w' => e = .returned (.bool gb) ∧ w' = W) := q3
 have fH : Hid (∀ g W, Calls Tryz.prog 96 #[.int .i64 f, .int .i64 g] W fun e w' => e = .returned (.bool (hasB f g)) ∧ w' = W) := fun g W => l2Has_calls f g W
 have qq4 : Hid (∀ W, Below w.heap.size w W → Calls Tryz.prog 105 #[.agg #[.string N, .string S, .slice a1 n1 c1, .int .i64 f, .slice a2 n2 c2, .slice a3 n3 c3, .slice a4 n4 c4]] W fun e w' => e = .returned (.bool fs) ∧ Below W.heap.size W w') := q4
 have qq5 : Hid (∀ W, Below w.heap.size w W → Calls Tryz.prog 106 #[.agg #[.string N, .string S, .slice a1 n1 c1, .int .i64 f, .slice a2 n2 c2, .slice a3 n3 c3, .slice a4 n4 c4]] W fun e w' => e = .returned (.bool ms) ∧ Below W.heap.size W w') := q5
 have htH : Hid (∀ W, Below w.heap.size w W → ListAt StrR 1 true lo hi W (.slice a2 n2 c2) ps) := fun W hW => ht.kept StrR.stable (Nat.le_refl _) (Nat.le_refl _) ((Same.below hW).mono (Nat.zero_le _) hh)
 have hpsH : Hid (ps.length = n2) := hps
 obtain ⟨B1, hB1⟩ : ∃ B, (!nm N || (((S.toList == []) != (N.toList == [79, 98, 106, 101, 99, 116])) || (!(S.toList == []) && !nm S))) = B := ⟨_, rfl⟩
 obtain ⟨B2, hB2⟩ : ∃ B, (!nf (.slice a1 n1 c1) || (!nf (.slice a2 n2 c2) || (!gb || (hasB f 256 != decide ((0 : Int) < n2))))) = B := ⟨_, rfl⟩
 obtain ⟨RA, hRA⟩ : ∃ B, ascFrom none ps = B := ⟨_, rfl⟩
 obtain ⟨B4, hB4⟩ : ∃ B, (hasB f 2 && hasB f 260) = B := ⟨_, rfl⟩
 obtain ⟨B5, hB5⟩ : ∃ B, (hasB f 128 && (!hasB f 4 || !(S.toList == [79, 98, 106, 101, 99, 116]))) = B := ⟨_, rfl⟩
 rw [hB1, hB2, hRA, hB4, hB5]
 have hB1H : Hid ((!nm N || (((S.toList == []) != (N.toList == [79, 98, 106, 101, 99, 116])) || (!(S.toList == []) && !nm S))) = B1) := hB1
 have hB2H : Hid ((!nf (.slice a1 n1 c1) || (!nf (.slice a2 n2 c2) || (!gb || (hasB f 256 != decide ((0 : Int) < n2))))) = B2) := hB2
 have hRAH : Hid (ascFrom none ps = RA) := hRA
 have hB4H : Hid ((hasB f 2 && hasB f 260) = B4) := hB4
 have hB5H : Hid ((hasB f 128 && (!hasB f 4 || !(S.toList == [79, 98, 106, 101, 99, 116]))) = B5) := hB5
 clear hB1 hB2 hRA hB4 hB5 q1 q2 q3 q4 q5 ht hps hh
 go_enter Tryz.func71, Tryz.ntmps71
 go_upto_region 1 with fail
 go_cut [27] (fun s27 wc => s27 = .bool B1 ∧ wc = w.alloc (.cells #[.string N, .string S, .slice a1 n1 c1, .int .i64 f, .slice a2 n2 c2, .slice a3 n3 c3, .slice a4 n4 c4] 49))
 case first =>
  rw [nil_beqM] at hB1H
  cases h1 : nm N <;> cases hse : S.toList.isEmpty <;> cases hon : (N.toList == [79, 98, 106, 101, 99, 116]) <;> cases h2 : nm S <;> rw [h1, hse, hon, h2] at hB1H
  all_goals (
   go_wp2_with (go_at_call 90; refine (nH.out _ _ (by assumption)).mono ?_; rintro e w2 ⟨rfl, rfl⟩)
   go_meet
   exact ⟨by rw [← hB1H.out]; rfl, rfl⟩)
 case rest =>
 obtain ⟨rfl, rfl⟩ := hcut
 cases B1 with
 | true =>
  go_wp2
  go_ret
  exact ⟨rfl, below_1 _ _⟩
 | false =>
 go_upto_region 3 with fail
 go_cut [53] (fun s53 wc => s53 = .bool B2 ∧ Hid (∃ n, wc = (w.alloc (.cells #[.string N, .string S, .slice a1 n1 c1, .int .i64 f, .slice a2 n2 c2, .slice a3 n3 c3, .slice a4 n4 c4] 49)).drewN n))
 case first =>
  cases h1 : nf (.slice a1 n1 c1) <;> rw [h1] at hB2H
  ·go_quiet (first | (go_at_call 103; exact Calls.quiet_of (kH.out _ _ (by first | exact .inl rfl | exact .inr rfl))) | (go_at_call 104; exact Calls.quiet_of_same (gH.out _)) | (go_at_call 96; exact Calls.quiet_of_same (fH.out _ _)))
   go_wp2_with fail
   go_meet
   exact ⟨by rw [← hB2H.out]; rfl, _, rfl⟩
  cases h2 : nf (.slice a2 n2 c2) <;> rw [h2] at hB2H
  ·go_quiet (first | (go_at_call 103; exact Calls.quiet_of (kH.out _ _ (by first | exact .inl rfl | exact .inr rfl))) | (go_at_call 104; exact Calls.quiet_of_same (gH.out _)) | (go_at_call 96; exact Calls.quiet_of_same (fH.out _ _)))
   go_wp2_with fail
   go_meet
   exact ⟨by rw [← hB2H.out]; rfl, _, rfl⟩
  cases gb with
  | false =>
   go_quiet (first | (go_at_call 103; exact Calls.quiet_of (kH.out _ _ (by first | exact .inl rfl | exact .inr rfl))) | (go_at_call 104; exact Calls.quiet_of_same (gH.out _)) | (go_at_call 96; exact Calls.quiet_of_same (fH.out _ _)))
   go_wp2_with fail
   go_meet
   exact ⟨by rw [← hB2H.out]; rfl, _, rfl⟩
  | true =>
   by_cases h0 : (0 : Int) < n2
   ·rw [decide_eq_true h0] at hB2H
    have h0d : decide (0 < n2) = true := decide_eq_true (by omega)
    cases hb : hasB f 256 <;> rw [hb] at hB2H
    all_goals (
     go_quiet (first | (go_at_call 103; exact Calls.quiet_of (kH.out _ _ (by first | exact .inl rfl | exact .inr rfl))) | (go_at_call 104; exact Calls.quiet_of_same (gH.out _)) | (go_at_call 96; exact Calls.quiet_of_same (fH.out _ _)))
     go_wp2_with fail
     go_meet
     exact ⟨by rw [← hB2H.out]; first | rfl | simp [h0d], _, rfl⟩)
   ·rw [decide_eq_false h0] at hB2H
    have h0d : decide (0 < n2) = false := decide_eq_false (by omega)
    cases hb : hasB f 256 <;> rw [hb] at hB2H
    all_goals (
     go_quiet (first | (go_at_call 103; exact Calls.quiet_of (kH.out _ _ (by first | exact .inl rfl | exact .inr rfl))) | (go_at_call 104; exact Calls.quiet_of_same (gH.out _)) | (go_at_call 96; exact Calls.quiet_of_same (fH.out _ _)))
     go_wp2_with fail
     go_meet
     exact ⟨by rw [← hB2H.out]; first | rfl | simp [h0d], _, rfl⟩)
 case rest =>
 obtain ⟨rfl, hwn⟩ := hcut
 have hB0 : Hid (Rec1 w wc [.string N, .string S, .slice a1 n1 c1, .int .i64 f, .slice a2 n2 c2, .slice a3 n3 c3, .slice a4 n4 c4]) := by obtain ⟨n, hn⟩ := hwn.out; rw [hn]; exact (Rec1.start rfl).drew n
 clear hwn kH nH gH
 cases B2 with
 | true =>
  go_wp2
  go_ret
  exact ⟨rfl, hB0.out.hb⟩
 | false =>
 go_wp2
 go_loopw [3] (fun i wr => ∃ m : Nat, 1 ≤ m ∧ (m ≤ n2 ∨ m = 1) ∧ i = .int .i64 m ∧ Hid (ascFrom (ahead ps m) (ps.drop m) = RA) ∧ Hid (Rec1 w wr [.string N, .string S, .slice a1 n1 c1, .int .i64 f, .slice a2 n2 c2, .slice a3 n3 c3, .slice a4 n4 c4])) (fun i _ => n2 - (intOf i).toNat)
 case atStart => exact ⟨1, Nat.le_refl _, .inr rfl, rfl, (asc_one ps).trans hRAH.out, hB0.out⟩
 case round =>
  obtain ⟨m, hm1, hm2, rfl, hz, hB⟩ := hrel
  have y4 := hB.out.cell 4 _ rfl
  by_cases hlt : m < n2
  ·have hlt' : (m : Int) < (n2 : Int) := by omega
   have hltx : m < ps.length := by rw [hpsH.out]; exact hlt
   have hstep := asc_step ps m hltx
   rw [hz.out] at hstep
   obtain ⟨k, rfl⟩ : ∃ k, m = k + 1 := ⟨m - 1, by omega⟩
   rw [ahead_succ ps k (by omega)] at hstep
   obtain ⟨b, off, rfl, hc1⟩ := (htH.out wr hB.out.hb).strAt k (by omega)
   obtain ⟨b2, off2, hb2, hc2⟩ := (htH.out wr hB.out.hb).strAt (k + 1) hltx
   obtain ⟨rfl, rfl⟩ : b = b2 ∧ off = off2 := by simpa using hb2
   obtain ⟨q, hq⟩ : ∃ q, q = ps[k] := ⟨_, rfl⟩
   obtain ⟨s, hs⟩ : ∃ s, s = ps[k + 1] := ⟨_, rfl⟩
   rw [← hq] at hc1 hstep
   rw [← hs] at hc2 hstep
   have hstepH : Hid (RA = (Op.bytesLess q.toList s.toList && ascFrom (ahead ps (k + 1 + 1)) (ps.drop (k + 1 + 1)))) := hstep
   have hkn : (k : Int) < (n2 : Int) := by omega
   clear hstep hz hq hs hb2
   cases hl : Op.bytesLess q.toList s.toList with
   | false =>
    rw [hl] at hstepH
    go_wp2
    go_quiet (fail)
    go_wp2
    go_ret
    exact ⟨by rw [hstepH.out]; rfl, below_drewN hB.out.hb _⟩
   | true =>
    rw [hl] at hstepH
    go_wp2
    go_quiet (fail)
    go_wp2
    go_roundw
    case rel => exact ⟨k + 1 + 1, by omega, .inl (by omega), by go_num, (show _ = RA by rw [hstepH.out]; rfl), hB.out.drew _⟩
    case measure => simp [intOf]; omega
  ·have hend := hz.out
   rw [List.drop_eq_nil_of_le (by rw [hpsH.out]; omega)] at hend
   have hRt : RA = true := hend.symm
   subst hRt
   have z1 := hB.out.cell 1 _ rfl
   have z3 := hB.out.cell 3 _ rfl
   clear hend hz htH
   go_upto_region 10 with fail
   clear y4
   go_cut [80] (fun s80 wc => s80 = .bool B4 ∧ wc = wr)
   case first =>
    cases h1 : hasB f 2 <;> cases h2 : hasB f 260 <;> rw [h1, h2] at hB4H
    all_goals (
     go_wp2_with (go_at_call 96; refine (fH.out _ _).mono ?_; rintro e w2 ⟨rfl, hw2⟩; subst w2)
     go_meet
     exact ⟨by rw [← hB4H.out]; rfl, rfl⟩)
   case rest =>
   obtain ⟨rfl, hwc⟩ := hcut
   subst wc
   cases B4 with
   | true =>
    go_wp2
    go_ret
    exact ⟨rfl, hB.out.hb⟩
   | false =>
   go_upto_region 12 with fail
   go_cut [94] (fun s94 wc => s94 = .bool B5 ∧ wc = wr)
   case first =>
    cases h1 : hasB f 128 <;> cases h2 : hasB f 4 <;> rw [h1, h2] at hB5H
    all_goals (
     by_cases hs : S.toList = [79, 98, 106, 101, 99, 116]
     ·have hsb : (S.toList == [79, 98, 106, 101, 99, 116]) = true := by rw [hs]; rfl
      rw [hsb] at hB5H
      have hsn : (S.toList != [79, 98, 106, 101, 99, 116]) = false := by simp only [bne, hsb]; rfl
      clear hs
      go_wp2_with (go_at_call 96; refine (fH.out _ _).mono ?_; rintro e w2 ⟨rfl, hw2⟩; subst w2)
      go_meet
      exact ⟨by rw [← hB5H.out]; rfl, rfl⟩
     ·have hsb : (S.toList == [79, 98, 106, 101, 99, 116]) = false := beq_false_of_ne hs
      rw [hsb] at hB5H
      have hsn : (S.toList != [79, 98, 106, 101, 99, 116]) = true := by simp only [bne, hsb]; rfl
      go_wp2_with (go_at_call 96; refine (fH.out _ _).mono ?_; rintro e w2 ⟨rfl, hw2⟩; subst w2)
      go_meet
      exact ⟨by rw [← hB5H.out]; rfl, rfl⟩)
   case rest =>
   obtain ⟨rfl, hwc⟩ := hcut
   subst wc
   cases B5 with
   | true =>
    go_wp2
    go_ret
    exact ⟨rfl, hB.out.hb⟩
   | false =>
   have r0 : Hid (Rec1 w wr [.string N, .string S, .slice a1 n1 c1, .int .i64 f, .slice a2 n2 c2, .slice a3 n3 c3, .slice a4 n4 c4]) := hB.out
   have x0 := r0.out.cell 0 _ rfl
   have x1 := r0.out.cell 1 _ rfl
   have x2 := r0.out.cell 2 _ rfl
   have x3 := r0.out.cell 3 _ rfl
   have x4 := r0.out.cell 4 _ rfl
   have x5 := r0.out.cell 5 _ rfl
   have x6 := r0.out.cell 6 _ rfl
   go_wp2_with fail
   clear z1 z3 x0 x1 x2 x3 x4 x5 x6
   refine (qq4.out wr r0.out.hb).mono ?_
   rintro e w1 ⟨rfl, hb1⟩
   have r1 : Hid (Rec1 w w1 [.string N, .string S, .slice a1 n1 c1, .int .i64 f, .slice a2 n2 c2, .slice a3 n3 c3, .slice a4 n4 c4]) := r0.out.call hb1
   clear hb1
   have x0 := r1.out.cell 0 _ rfl
   have x1 := r1.out.cell 1 _ rfl
   have x2 := r1.out.cell 2 _ rfl
   have x3 := r1.out.cell 3 _ rfl
   have x4 := r1.out.cell 4 _ rfl
   have x5 := r1.out.cell 5 _ rfl
   have x6 := r1.out.cell 6 _ rfl
   cases fs with
   | false =>
    go_wp2
    go_ret
    exact ⟨rfl, r1.out.hb⟩
   | true =>
    go_wp2_with fail
    clear x0 x1 x2 x3 x4 x5 x6
    refine (qq5.out w1 r1.out.hb).mono ?_
    rintro e w2 ⟨rfl, hb2⟩
    have r2 : Hid (Rec1 w w2 [.string N, .string S, .slice a1 n1 c1, .int .i64 f, .slice a2 n2 c2, .slice a3 n3 c3, .slice a4 n4 c4]) := r1.out.call hb2
    clear hb2
    go_wp2
    go_ret
    exact ⟨rfl, r2.out.hb⟩
end Go.Proofs.YtjjccimeikkogaaGreatDoor
