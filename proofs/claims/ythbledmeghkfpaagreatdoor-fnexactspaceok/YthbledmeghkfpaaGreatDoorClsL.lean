/- The methods of a class, by the specification. -/
import Derived.Test.YthbledmeghkfpaaGreatDoorClsK
import Derived.Test.YthbledmeghkfpaaGreatDoorMethH
namespace Go.Proofs.YthbledmeghkfpaaGreatDoor
set_option linter.unusedVariables false
open Go.ChangeShapes Go.WideShapes Go.ChangeAt Go.RowKit

def methC (g : Int) (x : MethL) : Bool := !(!methS x || (hasB x.flags 4 && !hasB g 4)) && !(hasB g 128 && ((x.name.toList == [110, 101, 119]) || hasB x.flags 34))
def methsS (g : Int) (xs : List MethL) : Bool := !decide ((40 : Int) < xs.length) && fresh (methC g) methKey [] xs
theorem isvar125 : isVar Tryz.prog 100 = true := by kernel_rfl
set_option maxRecDepth 1000000 in
theorem key_eq (y x : MethL) (hy : y.small) (hx : x.small) : decide (methKey y = methKey x) = ((y.name.toList == x.name.toList) && (y.sig.toList == x.sig.toList)) := by
  have hi : methKey y = methKey x ↔ (y.name.data.toList = x.name.data.toList ∧ y.sig.data.toList = x.sig.data.toList) := by
    constructor
    · intro h
      have h1 := pairLit_key y.name y.sig (by unfold maxLen; have := hy.1; omega) (by unfold maxLen; have := hy.2.1; omega)
      have h2 := pairLit_key x.name x.sig (by unfold maxLen; have := hx.1; omega) (by unfold maxLen; have := hx.2.1; omega)
      have h3 : pairLit y.name y.sig = pairLit x.name x.sig := h
      rw [h3] at h1
      have h4 := keyOf_inj_deep (m := 2) (tiled_of_laidOut laidOut_prog 2 100 isvar125 key125) wide125 h1 h2
      injection h4 with h5
      injection (Array.mk.inj h5) with h6 h7
      injection h6 with h8
      injection h7 with h9 _
      injection h9 with h10
      rw [h8, h10]
      exact ⟨rfl, rfl⟩
    · rintro ⟨h1, h2⟩
      unfold methKey pairLit
      rw [h1, h2]
  rw [Bool.eq_iff_iff, decide_eq_true_iff, hi, Bool.and_eq_true, beq_iff_eq, beq_iff_eq, ByteArray.toList_eq, ByteArray.toList_eq, ByteArray.toList_eq, ByteArray.toList_eq]

set_option maxRecDepth 1000000 in
set_option maxHeartbeats 4000000 in
theorem l2MethodsOk_walk (N S : ByteArray) (f : Int) (a1 : Option Addr) (n1 c1 : Nat) (a2 : Option Addr) (n2 c2 : Nat) (a3 : Option Addr) (n3 c3 : Nat) (a4 : Option Addr) (n4 c4 : Nat) (w : World) (xs : List MethL) (lo hi : Nat) (hh : hi ≤ w.heap.size) (ht : ListAt MethR 9 true lo hi w (.slice a4 n4 c4) xs) (hx : xs.length = n4) (hn : n4 ≤ 1048576) (hs : ∀ x ∈ xs, x.small) :
    Calls Tryz.prog 28 #[.agg #[.string N, .string S, .slice a1 n1 c1, .int .i64 f, .slice a2 n2 c2, .slice a3 n3 c3, .slice a4 n4 c4]] w fun e w' => e = .returned (.bool (methsS f xs)) ∧ Below w.heap.size w w' := by
  have htH : Hid (∀ W, Below w.heap.size w W → ListAt MethR 9 true lo hi W (.slice a4 n4 c4) xs) := fun W hW => ht.kept MethR.stable (Nat.le_refl _) (Nat.le_refl _) ((Same.below hW).mono (Nat.zero_le _) hh)
  have hsH : Hid (∀ x ∈ xs, x.small) := hs
  have hxH : Hid (xs.length = n4) := hx
  have hhH : Hid (hi ≤ w.heap.size) := hh
  have fH : Hid (∀ h g W, Calls Tryz.prog 26 #[.int .i64 h, .int .i64 g] W fun e w' => e = .returned (.bool (hasB h g)) ∧ w' = W) := fun h g W => l2Has_calls h g W
  obtain ⟨R, hR⟩ : ∃ R, methsS f xs = R := ⟨_, rfl⟩
  rw [hR]
  unfold methsS at hR
  rw [hx] at hR
  by_cases h40 : (40 : Int) < n4
  · rw [decide_eq_true h40] at hR
    have hR : R = false := hR.symm
    subst hR
    clear ht hs hx hh
    go_enter Tryz.func28, Tryz.ntmps28
    go_wp2
    go_ret
    exact ⟨rfl, below_1 _ _⟩
  rw [decide_eq_false h40] at hR
  have hRH : Hid (fresh (methC f) methKey [] xs = R) := by simpa [Hid] using hR
  clear hR ht hs hx hh
  go_enter Tryz.func28, Tryz.ntmps28
  go_wp2
  go_loopw [3] (fun i wr => ∃ m : Nat, m ≤ n4 ∧ i = .int .i64 m ∧ Hid (fresh (methC f) methKey (xs.take m) (xs.drop m) = R) ∧ Hid (Rec1 w wr [.string N, .string S, .slice a1 n1 c1, .int .i64 f, .slice a2 n2 c2, .slice a3 n3 c3, .slice a4 n4 c4])) (fun i _ => n4 - (intOf i).toNat)
  case atStart => exact ⟨0, Nat.zero_le _, rfl, hRH.out, Rec1.start rfl⟩
  case round =>
    rename World => wo
    obtain ⟨m, hm, rfl, hz, hB⟩ := hrel
    have y6 := hB.out.cell 6 _ rfl
    by_cases hlt : m < n4
    · have hltx : m < xs.length := by rw [hxH.out]; exact hlt
      obtain ⟨b, off, row, rfl, hbb, hrl, hrr, hrx⟩ := (htH.out wo hB.out.hb).at m hltx
      have hlt' : (m : Int) < (n4 : Int) := by omega
      have hstep := fresh_step (methC f) methKey xs m hltx
      rw [hz.out] at hstep
      have hsm := hsH.out _ (List.getElem_mem hltx)
      obtain ⟨x, hxm⟩ : ∃ x, x = xs[m] := ⟨_, rfl⟩
      rw [← hxm] at hrx hstep hsm
      have hbl : Hid (b < wo.heap.size) := by have := hhH.out; have := hB.out.hb.size; show b < wo.heap.size; omega
      have mH : Hid (∀ W, Below wo.heap.size wo W → Calls Tryz.prog 49 #[.agg row.toArray] W fun e w' => e = .returned (.bool (methS x)) ∧ Below W.heap.size W w') := fun W hW =>
        specMethod_calls x W row lo hi (by have := hhH.out; have := hB.out.hb.size; have := hW.size; omega) (MethR.stable _ _ _ _ _ _ _ _ _ hrx (Nat.le_refl _) (Nat.le_refl _) ((Same.below hW).mono (Nat.zero_le _) (by have := hhH.out; have := hB.out.hb.size; omega))) hsm
      have hsmH : Hid x.small := hsm
      obtain ⟨g1, g2, g3, g4, rfl, f1, f2, f3, f4⟩ := hrx
      obtain ⟨p1, k1, rfl⟩ := f1.form
      obtain ⟨p2, k2, rfl⟩ := f2.form
      obtain ⟨p3, k3, rfl⟩ := f3.form
      obtain ⟨p4, k4, rfl⟩ := f4.form
      clear f1 f2 f3 f4 hsm
      generalize x.code.length = m1 at *
      generalize x.hands.length = m2 at *
      generalize x.frames.length = m3 at *
      generalize x.lines.length = m4 at *
      have e0 : wo.cell? ⟨b, off + m * 9, none⟩ = some (.string x.name) := hrr 0 _ rfl
      have e1 : wo.cell? ⟨b, off + m * 9 + 1, none⟩ = some (.string x.sig) := hrr 1 _ rfl
      have e2 : wo.cell? ⟨b, off + m * 9 + 2, none⟩ = some (.int .i64 x.flags) := hrr 2 _ rfl
      have e3 : wo.cell? ⟨b, off + m * 9 + 3, none⟩ = some (.int .i64 x.stack) := hrr 3 _ rfl
      have e4 : wo.cell? ⟨b, off + m * 9 + 4, none⟩ = some (.int .i64 x.locals) := hrr 4 _ rfl
      have e5 : wo.cell? ⟨b, off + m * 9 + 5, none⟩ = some (.slice p1 m1 k1) := hrr 5 _ rfl
      have e6 : wo.cell? ⟨b, off + m * 9 + 6, none⟩ = some (.slice p2 m2 k2) := hrr 6 _ rfl
      have e7 : wo.cell? ⟨b, off + m * 9 + 7, none⟩ = some (.slice p3 m3 k3) := hrr 7 _ rfl
      have e8 : wo.cell? ⟨b, off + m * 9 + 8, none⟩ = some (.slice p4 m4 k4) := hrr 8 _ rfl
      have cjH : Hid (∀ j (hj : j < m), wo.cell? ⟨b, off + j * 9, none⟩ = some (.string (xs[j]'(by omega)).name) ∧ wo.cell? ⟨b, off + j * 9 + 1, none⟩ = some (.string (xs[j]'(by omega)).sig)) := fun j hj => by
        obtain ⟨b2, off2, row2, h1, _, h3, h4, h5⟩ := (htH.out wo hB.out.hb).at j (by omega)
        obtain ⟨rfl, rfl⟩ : b = b2 ∧ off = off2 := by simpa using h1
        obtain ⟨_, _, _, _, rfl, _⟩ := h5
        exact ⟨h4 0 _ rfl, h4 1 _ rfl⟩
      obtain ⟨ok, hok⟩ : ∃ ok, methC f x = ok := ⟨_, rfl⟩
      obtain ⟨A, hA⟩ : ∃ A, ((xs.take m).any fun y => decide (methKey y = methKey x)) = A := ⟨_, rfl⟩
      obtain ⟨FR, hFR⟩ : ∃ FR, fresh (methC f) methKey (xs.take (m + 1)) (xs.drop (m + 1)) = FR := ⟨_, rfl⟩
      rw [hok, hA, hFR] at hstep
      have hstepH : Hid (R = (ok && (!A && FR))) := hstep
      have hAH : Hid (((xs.take m).any fun y => decide (methKey y = methKey x)) = A) := hA
      have hFRH : Hid (fresh (methC f) methKey (xs.take (m + 1)) (xs.drop (m + 1)) = FR) := hFR
      unfold methC at hok
      generalize methS x = sb at *
      clear hstep hA hFR hz hxm hrr hrl hbb
      obtain ⟨wA, hwA⟩ : ∃ wA : World, wA = wo.alloc (.cells #[.string x.name, .string x.sig, .int .i64 x.flags, .int .i64 x.stack, .int .i64 x.locals, .slice p1 m1 k1, .slice p2 m2 k2, .slice p3 m3 k3, .slice p4 m4 k4] 79) := ⟨_, rfl⟩
      have hBn : Hid (Rec1 w wA [.string N, .string S, .slice a1 n1 c1, .int .i64 f, .slice a2 n2 c2, .slice a3 n3 c3, .slice (some ⟨b, off, none⟩) n4 c4]) := by rw [hwA]; exact hB.out.call (below_1 _ _)
      have hbA : Hid (Below wo.heap.size wo wA) := by rw [hwA]; exact below_1 _ _
      have hrA : Hid (wA.rangeAt wo.heap.size 0 [.string x.name, .string x.sig, .int .i64 x.flags, .int .i64 x.stack, .int .i64 x.locals, .slice p1 m1 k1, .slice p2 m2 k2, .slice p3 m3 k3, .slice p4 m4 k4]) := by rw [hwA]; exact rangeAt_heap (heap_alloc_new wo _)
      have hzA : Hid (wo.heap.size < wA.heap.size) := by rw [hwA]; simp [Hid]
      go_wp2_with fail
      rw [← hwA]
      clear hwA e0 e1 e2 e3 e4 e5 e6 e7 e8 y6
      refine (mH.out wA hbA.out).mono ?_
      rintro e wB ⟨rfl, hbB⟩
      have hBB : Hid (Rec1 w wB [.string N, .string S, .slice a1 n1 c1, .int .i64 f, .slice a2 n2 c2, .slice a3 n3 c3, .slice (some ⟨b, off, none⟩) n4 c4]) := hBn.out.call hbB
      have hoB : Hid (Below wo.heap.size wo wB) := below_on2 hbA.out hbB
      have hrB : Hid (wB.rangeAt wo.heap.size 0 [.string x.name, .string x.sig, .int .i64 x.flags, .int .i64 x.stack, .int .i64 x.locals, .slice p1 m1 k1, .slice p2 m2 k2, .slice p3 m3 k3, .slice p4 m4 k4]) := rangeAt_same (Same.below hbB) (Nat.zero_le _) hzA.out hrA.out
      have v0 : wB.cell? ⟨wo.heap.size, 0, none⟩ = some (.string x.name) := hrB.out 0 _ rfl
      have v1 : wB.cell? ⟨wo.heap.size, 1, none⟩ = some (.string x.sig) := hrB.out 1 _ rfl
      have v2 : wB.cell? ⟨wo.heap.size, 2, none⟩ = some (.int .i64 x.flags) := hrB.out 2 _ rfl
      have z3 := hBB.out.cell 3 _ rfl
      have z6 := hBB.out.cell 6 _ rfl
      clear hbB
      cases sb with
      | false =>
        have hRf : R = false := by rw [hstepH.out, ← hok]; rfl
        subst hRf
        clear hok
        go_wp2_with (go_at_call 26; refine (fH.out _ _ _).mono ?_; rintro e w2 ⟨rfl, hw2⟩; subst w2)
        go_ret
        exact ⟨rfl, hBB.out.hb⟩
      | true =>
        cases h4 : hasB x.flags 4 <;> rw [h4] at hok
        · skip
          cases h8 : hasB f 128 <;> rw [h8] at hok
          · skip
            have hRt : Hid (R = (!A && FR)) := by show R = _; rw [hstepH.out, ← hok]; rfl
            clear hok hstepH
            go_wp2_with (go_at_call 26; refine (fH.out _ _ _).mono ?_; rintro e w2 ⟨rfl, hw2⟩; subst w2)
            go_loopw [5] (fun i wr => ∃ j d : Nat, j ≤ m ∧ i = .int .i64 j ∧ Hid ((((xs.take m).drop j).any fun y => decide (methKey y = methKey x)) = A) ∧ Hid (wr = wB.drewN d)) (fun i _ => m - (intOf i).toNat)
            case atStart => exact ⟨0, 0, Nat.zero_le _, rfl, hAH.out, rfl⟩
            case round =>
              obtain ⟨j, d, hj, rfl, hz, hw⟩ := hrel
              have q6 : wr.cell? ⟨w.heap.size, 6, none⟩ = some (.slice (some ⟨b, off, none⟩) n4 c4) := by rw [hw.out]; exact z6
              have q0 : wr.cell? ⟨wo.heap.size, 0, none⟩ = some (.string x.name) := by rw [hw.out]; exact v0
              have q1 : wr.cell? ⟨wo.heap.size, 1, none⟩ = some (.string x.sig) := by rw [hw.out]; exact v1
              clear z3 z6 v0 v1 v2
              by_cases hjm : j < m
              · have hjn : (j : Int) < (n4 : Int) := by omega
                have hjm' : (j : Int) < (m : Int) := by omega
                have hjx : j < xs.length := by have := hxH.out; omega
                have hcj : wr.cell? ⟨b, off + j * 9, none⟩ = some (.string xs[j].name) := by
                  rw [hw.out]
                  exact (hoB.out.cell (p := ⟨b, off + j * 9, none⟩) hbl.out).trans (cjH.out j hjm).1
                have hck : wr.cell? ⟨b, off + j * 9 + 1, none⟩ = some (.string xs[j].sig) := by
                  rw [hw.out]
                  exact (hoB.out.cell (p := ⟨b, off + j * 9 + 1, none⟩) hbl.out).trans (cjH.out j hjm).2
                have hst2 := any_step (fun y : MethL => decide (methKey y = methKey x)) xs m j hjm (by omega)
                rw [hz.out, key_eq xs[j] x (hsH.out _ (List.getElem_mem hjx)) hsmH.out] at hst2
                obtain ⟨s, hs⟩ : ∃ s, s = xs[j].name := ⟨_, rfl⟩
                obtain ⟨u, hu⟩ : ∃ u, u = xs[j].sig := ⟨_, rfl⟩
                rw [← hs] at hcj hst2
                rw [← hu] at hck hst2
                have hst2H : Hid (A = (((s.toList == x.name.toList) && (u.toList == x.sig.toList)) || (((xs.take m).drop (j + 1)).any fun y => decide (methKey y = methKey x)))) := hst2
                clear hst2 hs hu hz
                cases he : (s.toList == x.name.toList) <;> cases hg : (u.toList == x.sig.toList) <;> rw [he, hg] at hst2H
                case' true.true =>
                  go_wp2
                  go_quiet (fail)
                  go_wp2
                  go_ret
                  exact ⟨by rw [hRt.out, hst2H.out]; rfl, by rw [hw.out]; exact below_drewN (below_drewN hBB.out.hb _) _⟩
                all_goals (
                  go_wp2
                  go_quiet (fail)
                  go_wp2
                  go_roundw
                  case rel => exact ⟨j + 1, _, by omega, by go_num, (show _ = A by rw [hst2H.out]; rfl), (by rw [hw.out]; exact drewN_all _ _ _)⟩
                  case measure => simp [intOf]; omega)
              · have hA0 : A = false := by rw [← hz.out]; exact any_done _ xs m j hjm
                subst hA0
                go_wp2
                go_roundw
                case rel => exact ⟨m + 1, by omega, by go_num, (show _ = R by rw [hRt.out, hFRH.out]; rfl), (by rw [hw.out]; exact hBB.out.drew _)⟩
                case measure => simp [intOf]; omega
          · cases hn : (x.name.toList == [110, 101, 119]) <;> rw [hn] at hok
            · cases h34 : hasB x.flags 34 <;> rw [h34] at hok
              · skip
                have hRt : Hid (R = (!A && FR)) := by show R = _; rw [hstepH.out, ← hok]; rfl
                clear hok hstepH
                go_wp2_with (go_at_call 26; refine (fH.out _ _ _).mono ?_; rintro e w2 ⟨rfl, hw2⟩; subst w2)
                go_loopw [5] (fun i wr => ∃ j d : Nat, j ≤ m ∧ i = .int .i64 j ∧ Hid ((((xs.take m).drop j).any fun y => decide (methKey y = methKey x)) = A) ∧ Hid (wr = wB.drewN d)) (fun i _ => m - (intOf i).toNat)
                case atStart => exact ⟨0, 0, Nat.zero_le _, rfl, hAH.out, rfl⟩
                case round =>
                  obtain ⟨j, d, hj, rfl, hz, hw⟩ := hrel
                  have q6 : wr.cell? ⟨w.heap.size, 6, none⟩ = some (.slice (some ⟨b, off, none⟩) n4 c4) := by rw [hw.out]; exact z6
                  have q0 : wr.cell? ⟨wo.heap.size, 0, none⟩ = some (.string x.name) := by rw [hw.out]; exact v0
                  have q1 : wr.cell? ⟨wo.heap.size, 1, none⟩ = some (.string x.sig) := by rw [hw.out]; exact v1
                  clear z3 z6 v0 v1 v2
                  by_cases hjm : j < m
                  · have hjn : (j : Int) < (n4 : Int) := by omega
                    have hjm' : (j : Int) < (m : Int) := by omega
                    have hjx : j < xs.length := by have := hxH.out; omega
                    have hcj : wr.cell? ⟨b, off + j * 9, none⟩ = some (.string xs[j].name) := by
                      rw [hw.out]
                      exact (hoB.out.cell (p := ⟨b, off + j * 9, none⟩) hbl.out).trans (cjH.out j hjm).1
                    have hck : wr.cell? ⟨b, off + j * 9 + 1, none⟩ = some (.string xs[j].sig) := by
                      rw [hw.out]
                      exact (hoB.out.cell (p := ⟨b, off + j * 9 + 1, none⟩) hbl.out).trans (cjH.out j hjm).2
                    have hst2 := any_step (fun y : MethL => decide (methKey y = methKey x)) xs m j hjm (by omega)
                    rw [hz.out, key_eq xs[j] x (hsH.out _ (List.getElem_mem hjx)) hsmH.out] at hst2
                    obtain ⟨s, hs⟩ : ∃ s, s = xs[j].name := ⟨_, rfl⟩
                    obtain ⟨u, hu⟩ : ∃ u, u = xs[j].sig := ⟨_, rfl⟩
                    rw [← hs] at hcj hst2
                    rw [← hu] at hck hst2
                    have hst2H : Hid (A = (((s.toList == x.name.toList) && (u.toList == x.sig.toList)) || (((xs.take m).drop (j + 1)).any fun y => decide (methKey y = methKey x)))) := hst2
                    clear hst2 hs hu hz
                    cases he : (s.toList == x.name.toList) <;> cases hg : (u.toList == x.sig.toList) <;> rw [he, hg] at hst2H
                    case' true.true =>
                      go_wp2
                      go_quiet (fail)
                      go_wp2
                      go_ret
                      exact ⟨by rw [hRt.out, hst2H.out]; rfl, by rw [hw.out]; exact below_drewN (below_drewN hBB.out.hb _) _⟩
                    all_goals (
                      go_wp2
                      go_quiet (fail)
                      go_wp2
                      go_roundw
                      case rel => exact ⟨j + 1, _, by omega, by go_num, (show _ = A by rw [hst2H.out]; rfl), (by rw [hw.out]; exact drewN_all _ _ _)⟩
                      case measure => simp [intOf]; omega)
                  · have hA0 : A = false := by rw [← hz.out]; exact any_done _ xs m j hjm
                    subst hA0
                    go_wp2
                    go_roundw
                    case rel => exact ⟨m + 1, by omega, by go_num, (show _ = R by rw [hRt.out, hFRH.out]; rfl), (by rw [hw.out]; exact hBB.out.drew _)⟩
                    case measure => simp [intOf]; omega
              · skip
                have hRf : R = false := by rw [hstepH.out, ← hok]; rfl
                subst hRf
                clear hok
                go_wp2_with (go_at_call 26; refine (fH.out _ _ _).mono ?_; rintro e w2 ⟨rfl, hw2⟩; subst w2)
                go_ret
                exact ⟨rfl, hBB.out.hb⟩
            · skip
              have hRf : R = false := by rw [hstepH.out, ← hok]; rfl
              subst hRf
              clear hok
              go_wp2_with (go_at_call 26; refine (fH.out _ _ _).mono ?_; rintro e w2 ⟨rfl, hw2⟩; subst w2)
              go_ret
              exact ⟨rfl, hBB.out.hb⟩
        · cases g4 : hasB f 4 <;> rw [g4] at hok
          · skip
            have hRf : R = false := by rw [hstepH.out, ← hok]; rfl
            subst hRf
            clear hok
            go_wp2_with (go_at_call 26; refine (fH.out _ _ _).mono ?_; rintro e w2 ⟨rfl, hw2⟩; subst w2)
            go_ret
            exact ⟨rfl, hBB.out.hb⟩
          · skip
            cases h8 : hasB f 128 <;> rw [h8] at hok
            · skip
              have hRt : Hid (R = (!A && FR)) := by show R = _; rw [hstepH.out, ← hok]; rfl
              clear hok hstepH
              go_wp2_with (go_at_call 26; refine (fH.out _ _ _).mono ?_; rintro e w2 ⟨rfl, hw2⟩; subst w2)
              go_loopw [5] (fun i wr => ∃ j d : Nat, j ≤ m ∧ i = .int .i64 j ∧ Hid ((((xs.take m).drop j).any fun y => decide (methKey y = methKey x)) = A) ∧ Hid (wr = wB.drewN d)) (fun i _ => m - (intOf i).toNat)
              case atStart => exact ⟨0, 0, Nat.zero_le _, rfl, hAH.out, rfl⟩
              case round =>
                obtain ⟨j, d, hj, rfl, hz, hw⟩ := hrel
                have q6 : wr.cell? ⟨w.heap.size, 6, none⟩ = some (.slice (some ⟨b, off, none⟩) n4 c4) := by rw [hw.out]; exact z6
                have q0 : wr.cell? ⟨wo.heap.size, 0, none⟩ = some (.string x.name) := by rw [hw.out]; exact v0
                have q1 : wr.cell? ⟨wo.heap.size, 1, none⟩ = some (.string x.sig) := by rw [hw.out]; exact v1
                clear z3 z6 v0 v1 v2
                by_cases hjm : j < m
                · have hjn : (j : Int) < (n4 : Int) := by omega
                  have hjm' : (j : Int) < (m : Int) := by omega
                  have hjx : j < xs.length := by have := hxH.out; omega
                  have hcj : wr.cell? ⟨b, off + j * 9, none⟩ = some (.string xs[j].name) := by
                    rw [hw.out]
                    exact (hoB.out.cell (p := ⟨b, off + j * 9, none⟩) hbl.out).trans (cjH.out j hjm).1
                  have hck : wr.cell? ⟨b, off + j * 9 + 1, none⟩ = some (.string xs[j].sig) := by
                    rw [hw.out]
                    exact (hoB.out.cell (p := ⟨b, off + j * 9 + 1, none⟩) hbl.out).trans (cjH.out j hjm).2
                  have hst2 := any_step (fun y : MethL => decide (methKey y = methKey x)) xs m j hjm (by omega)
                  rw [hz.out, key_eq xs[j] x (hsH.out _ (List.getElem_mem hjx)) hsmH.out] at hst2
                  obtain ⟨s, hs⟩ : ∃ s, s = xs[j].name := ⟨_, rfl⟩
                  obtain ⟨u, hu⟩ : ∃ u, u = xs[j].sig := ⟨_, rfl⟩
                  rw [← hs] at hcj hst2
                  rw [← hu] at hck hst2
                  have hst2H : Hid (A = (((s.toList == x.name.toList) && (u.toList == x.sig.toList)) || (((xs.take m).drop (j + 1)).any fun y => decide (methKey y = methKey x)))) := hst2
                  clear hst2 hs hu hz
                  cases he : (s.toList == x.name.toList) <;> cases hg : (u.toList == x.sig.toList) <;> rw [he, hg] at hst2H
                  case' true.true =>
                    go_wp2
                    go_quiet (fail)
                    go_wp2
                    go_ret
                    exact ⟨by rw [hRt.out, hst2H.out]; rfl, by rw [hw.out]; exact below_drewN (below_drewN hBB.out.hb _) _⟩
                  all_goals (
                    go_wp2
                    go_quiet (fail)
                    go_wp2
                    go_roundw
                    case rel => exact ⟨j + 1, _, by omega, by go_num, (show _ = A by rw [hst2H.out]; rfl), (by rw [hw.out]; exact drewN_all _ _ _)⟩
                    case measure => simp [intOf]; omega)
                · have hA0 : A = false := by rw [← hz.out]; exact any_done _ xs m j hjm
                  subst hA0
                  go_wp2
                  go_roundw
                  case rel => exact ⟨m + 1, by omega, by go_num, (show _ = R by rw [hRt.out, hFRH.out]; rfl), (by rw [hw.out]; exact hBB.out.drew _)⟩
                  case measure => simp [intOf]; omega
            · cases hn : (x.name.toList == [110, 101, 119]) <;> rw [hn] at hok
              · cases h34 : hasB x.flags 34 <;> rw [h34] at hok
                · skip
                  have hRt : Hid (R = (!A && FR)) := by show R = _; rw [hstepH.out, ← hok]; rfl
                  clear hok hstepH
                  go_wp2_with (go_at_call 26; refine (fH.out _ _ _).mono ?_; rintro e w2 ⟨rfl, hw2⟩; subst w2)
                  go_loopw [5] (fun i wr => ∃ j d : Nat, j ≤ m ∧ i = .int .i64 j ∧ Hid ((((xs.take m).drop j).any fun y => decide (methKey y = methKey x)) = A) ∧ Hid (wr = wB.drewN d)) (fun i _ => m - (intOf i).toNat)
                  case atStart => exact ⟨0, 0, Nat.zero_le _, rfl, hAH.out, rfl⟩
                  case round =>
                    obtain ⟨j, d, hj, rfl, hz, hw⟩ := hrel
                    have q6 : wr.cell? ⟨w.heap.size, 6, none⟩ = some (.slice (some ⟨b, off, none⟩) n4 c4) := by rw [hw.out]; exact z6
                    have q0 : wr.cell? ⟨wo.heap.size, 0, none⟩ = some (.string x.name) := by rw [hw.out]; exact v0
                    have q1 : wr.cell? ⟨wo.heap.size, 1, none⟩ = some (.string x.sig) := by rw [hw.out]; exact v1
                    clear z3 z6 v0 v1 v2
                    by_cases hjm : j < m
                    · have hjn : (j : Int) < (n4 : Int) := by omega
                      have hjm' : (j : Int) < (m : Int) := by omega
                      have hjx : j < xs.length := by have := hxH.out; omega
                      have hcj : wr.cell? ⟨b, off + j * 9, none⟩ = some (.string xs[j].name) := by
                        rw [hw.out]
                        exact (hoB.out.cell (p := ⟨b, off + j * 9, none⟩) hbl.out).trans (cjH.out j hjm).1
                      have hck : wr.cell? ⟨b, off + j * 9 + 1, none⟩ = some (.string xs[j].sig) := by
                        rw [hw.out]
                        exact (hoB.out.cell (p := ⟨b, off + j * 9 + 1, none⟩) hbl.out).trans (cjH.out j hjm).2
                      have hst2 := any_step (fun y : MethL => decide (methKey y = methKey x)) xs m j hjm (by omega)
                      rw [hz.out, key_eq xs[j] x (hsH.out _ (List.getElem_mem hjx)) hsmH.out] at hst2
                      obtain ⟨s, hs⟩ : ∃ s, s = xs[j].name := ⟨_, rfl⟩
                      obtain ⟨u, hu⟩ : ∃ u, u = xs[j].sig := ⟨_, rfl⟩
                      rw [← hs] at hcj hst2
                      rw [← hu] at hck hst2
                      have hst2H : Hid (A = (((s.toList == x.name.toList) && (u.toList == x.sig.toList)) || (((xs.take m).drop (j + 1)).any fun y => decide (methKey y = methKey x)))) := hst2
                      clear hst2 hs hu hz
                      cases he : (s.toList == x.name.toList) <;> cases hg : (u.toList == x.sig.toList) <;> rw [he, hg] at hst2H
                      case' true.true =>
                        go_wp2
                        go_quiet (fail)
                        go_wp2
                        go_ret
                        exact ⟨by rw [hRt.out, hst2H.out]; rfl, by rw [hw.out]; exact below_drewN (below_drewN hBB.out.hb _) _⟩
                      all_goals (
                        go_wp2
                        go_quiet (fail)
                        go_wp2
                        go_roundw
                        case rel => exact ⟨j + 1, _, by omega, by go_num, (show _ = A by rw [hst2H.out]; rfl), (by rw [hw.out]; exact drewN_all _ _ _)⟩
                        case measure => simp [intOf]; omega)
                    · have hA0 : A = false := by rw [← hz.out]; exact any_done _ xs m j hjm
                      subst hA0
                      go_wp2
                      go_roundw
                      case rel => exact ⟨m + 1, by omega, by go_num, (show _ = R by rw [hRt.out, hFRH.out]; rfl), (by rw [hw.out]; exact hBB.out.drew _)⟩
                      case measure => simp [intOf]; omega
                · skip
                  have hRf : R = false := by rw [hstepH.out, ← hok]; rfl
                  subst hRf
                  clear hok
                  go_wp2_with (go_at_call 26; refine (fH.out _ _ _).mono ?_; rintro e w2 ⟨rfl, hw2⟩; subst w2)
                  go_ret
                  exact ⟨rfl, hBB.out.hb⟩
              · skip
                have hRf : R = false := by rw [hstepH.out, ← hok]; rfl
                subst hRf
                clear hok
                go_wp2_with (go_at_call 26; refine (fH.out _ _ _).mono ?_; rintro e w2 ⟨rfl, hw2⟩; subst w2)
                go_ret
                exact ⟨rfl, hBB.out.hb⟩
    · have hend := hz.out
      rw [List.drop_eq_nil_of_le (by rw [hxH.out]; omega)] at hend
      have hR : R = true := hend.symm
      subst hR
      clear hend
      go_wp2
      go_ret
      exact ⟨rfl, hB.out.hb⟩
end Go.Proofs.YthbledmeghkfpaaGreatDoor
