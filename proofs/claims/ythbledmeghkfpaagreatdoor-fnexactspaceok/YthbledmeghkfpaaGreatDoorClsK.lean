/- The fields of a class, by the specification. -/
import Derived.Test.YthbledmeghkfpaaGreatDoorClsG0
namespace Go.Proofs.YthbledmeghkfpaaGreatDoor
set_option linter.unusedVariables false
open Go.ChangeShapes Go.WideShapes Go.ChangeAt Go.RowKit

def fieldS (g : Int) (x : FieldL) : Bool := !(!nameS x.name || (!typeL x.ty.data.toList || (!flagB x.flags 27 || (hasB x.flags 2 && hasB x.flags 16)))) && !(hasB g 128 && !(x.flags == 3))
def fieldsS (g : Int) (xs : List FieldL) : Bool := !decide ((40 : Int) < xs.length) && fresh (fieldS g) fieldKey [] xs
theorem Rec1.drew {w W : World} {I : List Value} (h : Rec1 w W I) (n : Nat) : Rec1 w (W.drewN n) I := ⟨below_drewN h.hb n, h.sz, h.one⟩
theorem cell_lastC (w : World) (row : Array Value) (t : TypeId) (v : Value) (i : Nat) (h : row[i]? = some v) : (w.alloc (.cells row t)).cell? ⟨w.heap.size, i, none⟩ = some v := by
  have h0 : (w.alloc (.cells row t)).heap[w.heap.size]? = some (.cells row t (0, 0)) := heap_alloc_new w _
  have := rangeAt_heap h0 i v (by simpa using h)
  simpa using this
theorem any_step {α : Type} (p : α → Bool) (xs : List α) (m j : Nat) (h : j < m) (hm : m ≤ xs.length) : ((xs.take m).drop j).any p = (p (xs[j]'(by omega)) || ((xs.take m).drop (j + 1)).any p) := by
  rw [List.drop_eq_getElem_cons (by simp; omega), List.any_cons, List.getElem_take]
theorem any_done {α : Type} (p : α → Bool) (xs : List α) (m j : Nat) (h : ¬ j < m) : ((xs.take m).drop j).any p = false := by
  rw [List.drop_eq_nil_of_le (by simp; omega)]; rfl

set_option maxRecDepth 1000000 in
set_option maxHeartbeats 4000000 in
theorem l2FieldsOk_walk (N S : ByteArray) (f : Int) (a1 : Option Addr) (n1 c1 : Nat) (a2 : Option Addr) (n2 c2 : Nat) (a3 : Option Addr) (n3 c3 : Nat) (a4 : Option Addr) (n4 c4 : Nat) (w : World) (xs : List FieldL) (lo hi : Nat) (hh : hi ≤ w.heap.size) (ht : ListAt FieldR 3 true lo hi w (.slice a3 n3 c3) xs) (hx : xs.length = n3) (hn : n3 ≤ 1048576) (hs : ∀ x ∈ xs, x.small) :
    Calls Tryz.prog 27 #[.agg #[.string N, .string S, .slice a1 n1 c1, .int .i64 f, .slice a2 n2 c2, .slice a3 n3 c3, .slice a4 n4 c4]] w fun e w' => e = .returned (.bool (fieldsS f xs)) ∧ Below w.heap.size w w' := by
  have htH : Hid (∀ W, Below w.heap.size w W → ListAt FieldR 3 true lo hi W (.slice a3 n3 c3) xs) := fun W hW => ht.kept FieldR.stable (Nat.le_refl _) (Nat.le_refl _) ((Same.below hW).mono (Nat.zero_le _) hh)
  have hsH : Hid (∀ x ∈ xs, x.small) := hs
  have hxH : Hid (xs.length = n3) := hx
  have hhH : Hid (hi ≤ w.heap.size) := hh
  have isz : Hid ((Tryz.prog.info? 73).map (·.size) = some 3) := by show (Tryz.prog.info? 73).map (·.size) = some 3; kernel_rfl
  have fH : Hid (∀ h g W, Calls Tryz.prog 26 #[.int .i64 h, .int .i64 g] W fun e w' => e = .returned (.bool (hasB h g)) ∧ w' = W) := fun h g W => l2Has_calls h g W
  obtain ⟨R, hR⟩ : ∃ R, fieldsS f xs = R := ⟨_, rfl⟩
  rw [hR]
  unfold fieldsS at hR
  rw [hx] at hR
  by_cases h40 : (40 : Int) < n3
  · rw [decide_eq_true h40] at hR
    have hR : R = false := hR.symm
    subst hR
    clear ht hs hx hh
    go_enter Tryz.func27, Tryz.ntmps27
    go_wp2
    go_ret
    exact ⟨rfl, below_1 _ _⟩
  rw [decide_eq_false h40] at hR
  have hRH : Hid (fresh (fieldS f) fieldKey [] xs = R) := by simpa [Hid] using hR
  clear hR ht hs hx hh
  go_enter Tryz.func27, Tryz.ntmps27
  go_wp2
  go_loopw [3] (fun i wr => ∃ m : Nat, m ≤ n3 ∧ i = .int .i64 m ∧ Hid (fresh (fieldS f) fieldKey (xs.take m) (xs.drop m) = R) ∧ Hid (Rec1 w wr [.string N, .string S, .slice a1 n1 c1, .int .i64 f, .slice a2 n2 c2, .slice a3 n3 c3, .slice a4 n4 c4])) (fun i _ => n3 - (intOf i).toNat)
  case atStart => exact ⟨0, Nat.zero_le _, rfl, hRH.out, Rec1.start rfl⟩
  case round =>
    rename World => wo
    obtain ⟨m, hm, rfl, hz, hB⟩ := hrel
    have y3 := hB.out.cell 3 _ rfl
    have y5 := hB.out.cell 5 _ rfl
    by_cases hlt : m < n3
    · have hltx : m < xs.length := by rw [hxH.out]; exact hlt
      obtain ⟨b, off, row, rfl, hbb, hrl, hrr, hrx⟩ := (htH.out wo hB.out.hb).at m hltx
      have hlt' : (m : Int) < (n3 : Int) := by omega
      have hstep := fresh_step (fieldS f) fieldKey xs m hltx
      rw [hz.out] at hstep
      have hsm := hsH.out _ (List.getElem_mem hltx)
      obtain ⟨x, hxm⟩ : ∃ x, x = xs[m] := ⟨_, rfl⟩
      rw [← hxm] at hrx hstep hsm
      obtain rfl : row = [.string x.name, .string x.ty, .int .i64 x.flags] := hrx
      obtain ⟨hsn, hst⟩ := hsm
      have nH : Hid (∀ W, Calls Tryz.prog 23 #[.string x.name] W fun e w' => e = .returned (.bool (nameS x.name)) ∧ w' = W) := fun W => specName_calls x.name W (by omega)
      have tH : Hid (∀ W, Calls Tryz.prog 48 #[.string x.ty] W fun e w' => e = .returned (.bool (typeL x.ty.data.toList)) ∧ w' = W) := fun W => specType_calls x.ty W (by omega)
      have gH : Hid (∀ W, Calls Tryz.prog 25 #[.int .i64 x.flags, .int .i64 27] W fun e w' => e = .returned (.bool (flagB x.flags 27)) ∧ w' = W) := fun W => l2Flags_calls x.flags 27 W
      have e0 : wo.cell? ⟨b, off + m * 3, none⟩ = some (.string x.name) := hrr 0 _ rfl
      have e1 : wo.cell? ⟨b, off + m * 3 + 1, none⟩ = some (.string x.ty) := hrr 1 _ rfl
      have e2 : wo.cell? ⟨b, off + m * 3 + 2, none⟩ = some (.int .i64 x.flags) := hrr 2 _ rfl
      have hBn : Hid (Rec1 w (wo.alloc (.cells #[.string x.name, .string x.ty, .int .i64 x.flags] 73)) [.string N, .string S, .slice a1 n1 c1, .int .i64 f, .slice a2 n2 c2, .slice (some ⟨b, off, none⟩) n3 c3, .slice a4 n4 c4]) := hB.out.call (below_1 _ _)
      have z3 := hBn.out.cell 3 _ rfl
      have z5 := hBn.out.cell 5 _ rfl
      have cjH : Hid (∀ j (hj : j < m), wo.cell? ⟨b, off + j * 3, none⟩ = some (.string (xs[j]'(by omega)).name)) := fun j hj => by
        obtain ⟨b2, off2, row2, h1, _, h3, h4, h5⟩ := (htH.out wo hB.out.hb).at j (by omega)
        obtain ⟨rfl, rfl⟩ : b = b2 ∧ off = off2 := by simpa using h1
        have h5' : row2 = [.string xs[j].name, .string xs[j].ty, .int .i64 xs[j].flags] := h5
        simpa using h4 0 (.string xs[j].name) (by rw [h5']; rfl)
      have hbl : Hid (b < wo.heap.size) := by have := hhH.out; have := hB.out.hb.size; show b < wo.heap.size; omega
      obtain ⟨ok, hok⟩ : ∃ ok, fieldS f x = ok := ⟨_, rfl⟩
      obtain ⟨A, hA⟩ : ∃ A, ((xs.take m).any fun y => decide (fieldKey y = fieldKey x)) = A := ⟨_, rfl⟩
      obtain ⟨FR, hFR⟩ : ∃ FR, fresh (fieldS f) fieldKey (xs.take (m + 1)) (xs.drop (m + 1)) = FR := ⟨_, rfl⟩
      rw [hok, hA, hFR] at hstep
      have hstepH : Hid (R = (ok && (!A && FR))) := hstep
      have hAH : Hid (((xs.take m).any fun y => decide (fieldKey y = fieldKey x)) = A) := hA
      have hFRH : Hid (fresh (fieldS f) fieldKey (xs.take (m + 1)) (xs.drop (m + 1)) = FR) := hFR
      unfold fieldS at hok
      generalize nameS x.name = nb at *
      generalize typeL x.ty.data.toList = tb at *
      generalize flagB x.flags 27 = gb at *
      clear hstep hA hFR hz hxm hrr hrl hbb hsn hst
      cases nb with
      | false =>
        have hRf : R = false := by rw [hstepH.out, ← hok]; rfl
        subst hRf
        clear hok
        go_wp2_with (first | (go_at_call 23; refine (nH.out _).mono ?_; rintro e w2 ⟨rfl, rfl⟩) | (go_at_call 48; refine (tH.out _).mono ?_; rintro e w2 ⟨rfl, rfl⟩) | (go_at_call 25; refine (gH.out _).mono ?_; rintro e w2 ⟨rfl, rfl⟩) | (go_at_call 26; refine (fH.out _ _ _).mono ?_; rintro e w2 ⟨rfl, rfl⟩))
        go_ret
        exact ⟨rfl, hBn.out.hb⟩
      | true =>
        cases tb with
        | false =>
          have hRf : R = false := by rw [hstepH.out, ← hok]; rfl
          subst hRf
          clear hok
          go_wp2_with (first | (go_at_call 23; refine (nH.out _).mono ?_; rintro e w2 ⟨rfl, rfl⟩) | (go_at_call 48; refine (tH.out _).mono ?_; rintro e w2 ⟨rfl, rfl⟩) | (go_at_call 25; refine (gH.out _).mono ?_; rintro e w2 ⟨rfl, rfl⟩) | (go_at_call 26; refine (fH.out _ _ _).mono ?_; rintro e w2 ⟨rfl, rfl⟩))
          go_ret
          exact ⟨rfl, hBn.out.hb⟩
        | true =>
          cases gb with
          | false =>
            have hRf : R = false := by rw [hstepH.out, ← hok]; rfl
            subst hRf
            clear hok
            go_wp2_with (first | (go_at_call 23; refine (nH.out _).mono ?_; rintro e w2 ⟨rfl, rfl⟩) | (go_at_call 48; refine (tH.out _).mono ?_; rintro e w2 ⟨rfl, rfl⟩) | (go_at_call 25; refine (gH.out _).mono ?_; rintro e w2 ⟨rfl, rfl⟩) | (go_at_call 26; refine (fH.out _ _ _).mono ?_; rintro e w2 ⟨rfl, rfl⟩))
            go_ret
            exact ⟨rfl, hBn.out.hb⟩
          | true =>
            cases h2 : hasB x.flags 2 <;> cases h16 : hasB x.flags 16 <;> rw [h2, h16] at hok
            · skip
              cases h8 : hasB f 128 <;> rw [h8] at hok
              · have hb3 : True := trivial
                have hRt : Hid (R = (!A && FR)) := by show R = _; rw [hstepH.out, ← hok]; rfl
                clear hok hstepH
                go_wp2_with (first | (go_at_call 23; refine (nH.out _).mono ?_; rintro e w2 ⟨rfl, rfl⟩) | (go_at_call 48; refine (tH.out _).mono ?_; rintro e w2 ⟨rfl, rfl⟩) | (go_at_call 25; refine (gH.out _).mono ?_; rintro e w2 ⟨rfl, rfl⟩) | (go_at_call 26; refine (fH.out _ _ _).mono ?_; rintro e w2 ⟨rfl, rfl⟩))
                go_loopw [5] (fun i wr => ∃ j d : Nat, j ≤ m ∧ i = .int .i64 j ∧ Hid ((((xs.take m).drop j).any fun y => decide (fieldKey y = fieldKey x)) = A) ∧ Hid (wr = (wo.alloc (.cells #[.string x.name, .string x.ty, .int .i64 x.flags] 73)).drewN d)) (fun i _ => m - (intOf i).toNat)
                case atStart => exact ⟨0, 0, Nat.zero_le _, rfl, hAH.out, rfl⟩
                case round =>
                  obtain ⟨j, d, hj, rfl, hz, hw⟩ := hrel
                  have q5 : wr.cell? ⟨w.heap.size, 5, none⟩ = some (.slice (some ⟨b, off, none⟩) n3 c3) := by rw [hw.out]; exact z5
                  have q0 : wr.cell? ⟨wo.heap.size, 0, none⟩ = some (.string x.name) := by rw [hw.out]; exact cell_lastC _ _ _ _ 0 rfl
                  clear z3 z5 y3 y5
                  by_cases hjm : j < m
                  · have hjn : (j : Int) < (n3 : Int) := by omega
                    have hjm' : (j : Int) < (m : Int) := by omega
                    have hcj : wr.cell? ⟨b, off + j * 3, none⟩ = some (.string (xs[j]'(by omega)).name) := by
                      rw [hw.out]
                      exact ((below_1 wo _).cell (p := ⟨b, off + j * 3, none⟩) hbl.out).trans (cjH.out j hjm)
                    have hst2 := any_step (fun y : FieldL => decide (fieldKey y = fieldKey x)) xs m j hjm (by omega)
                    rw [hz.out] at hst2
                    have hkk : decide (fieldKey (xs[j]'(by omega)) = fieldKey x) = ((xs[j]'(by omega)).name.toList == x.name.toList) := (str_eq _ _).symm
                    rw [hkk] at hst2
                    obtain ⟨s, hs⟩ : ∃ s, s = (xs[j]'(by omega)).name := ⟨_, rfl⟩
                    rw [← hs] at hcj hst2
                    have hst2H : Hid (A = ((s.toList == x.name.toList) || (((xs.take m).drop (j + 1)).any fun y => decide (fieldKey y = fieldKey x)))) := hst2
                    clear hst2 hkk hs hz
                    cases he : (s.toList == x.name.toList) with
                    | true =>
                      rw [he] at hst2H
                      go_wp2
                      go_quiet (fail)
                      go_wp2
                      go_ret
                      exact ⟨by rw [hRt.out, hst2H.out]; rfl, by rw [hw.out]; exact below_drewN (below_drewN hBn.out.hb _) _⟩
                    | false =>
                      rw [he] at hst2H
                      go_wp2
                      go_quiet (fail)
                      go_wp2
                      go_roundw
                      case rel => exact ⟨j + 1, _, by omega, by go_num, (show _ = A by rw [hst2H.out]; rfl), (by rw [hw.out]; exact drewN_all _ _ _)⟩
                      case measure => simp [intOf]; omega
                  · have hA0 : A = false := by rw [← hz.out]; exact any_done _ xs m j hjm
                    subst hA0
                    go_wp2
                    go_roundw
                    case rel => exact ⟨m + 1, by omega, by go_num, (show _ = R by rw [hRt.out, hFRH.out]; rfl), (by rw [hw.out]; exact hBn.out.drew _)⟩
                    case measure => simp [intOf]; omega
              · cases hb3 : (x.flags == 3) <;> rw [hb3] at hok
                · have hbn : (x.flags != 3) = true := by simp only [bne, hb3]; rfl
                  have hRf : R = false := by rw [hstepH.out, ← hok]; rfl
                  subst hRf
                  clear hok
                  go_wp2_with (first | (go_at_call 23; refine (nH.out _).mono ?_; rintro e w2 ⟨rfl, rfl⟩) | (go_at_call 48; refine (tH.out _).mono ?_; rintro e w2 ⟨rfl, rfl⟩) | (go_at_call 25; refine (gH.out _).mono ?_; rintro e w2 ⟨rfl, rfl⟩) | (go_at_call 26; refine (fH.out _ _ _).mono ?_; rintro e w2 ⟨rfl, rfl⟩))
                  go_ret
                  exact ⟨rfl, hBn.out.hb⟩
                · have hbn : (x.flags != 3) = false := by simp only [bne, hb3]; rfl
                  have hRt : Hid (R = (!A && FR)) := by show R = _; rw [hstepH.out, ← hok]; rfl
                  clear hok hstepH
                  go_wp2_with (first | (go_at_call 23; refine (nH.out _).mono ?_; rintro e w2 ⟨rfl, rfl⟩) | (go_at_call 48; refine (tH.out _).mono ?_; rintro e w2 ⟨rfl, rfl⟩) | (go_at_call 25; refine (gH.out _).mono ?_; rintro e w2 ⟨rfl, rfl⟩) | (go_at_call 26; refine (fH.out _ _ _).mono ?_; rintro e w2 ⟨rfl, rfl⟩))
                  go_loopw [5] (fun i wr => ∃ j d : Nat, j ≤ m ∧ i = .int .i64 j ∧ Hid ((((xs.take m).drop j).any fun y => decide (fieldKey y = fieldKey x)) = A) ∧ Hid (wr = (wo.alloc (.cells #[.string x.name, .string x.ty, .int .i64 x.flags] 73)).drewN d)) (fun i _ => m - (intOf i).toNat)
                  case atStart => exact ⟨0, 0, Nat.zero_le _, rfl, hAH.out, rfl⟩
                  case round =>
                    obtain ⟨j, d, hj, rfl, hz, hw⟩ := hrel
                    have q5 : wr.cell? ⟨w.heap.size, 5, none⟩ = some (.slice (some ⟨b, off, none⟩) n3 c3) := by rw [hw.out]; exact z5
                    have q0 : wr.cell? ⟨wo.heap.size, 0, none⟩ = some (.string x.name) := by rw [hw.out]; exact cell_lastC _ _ _ _ 0 rfl
                    clear z3 z5 y3 y5
                    by_cases hjm : j < m
                    · have hjn : (j : Int) < (n3 : Int) := by omega
                      have hjm' : (j : Int) < (m : Int) := by omega
                      have hcj : wr.cell? ⟨b, off + j * 3, none⟩ = some (.string (xs[j]'(by omega)).name) := by
                        rw [hw.out]
                        exact ((below_1 wo _).cell (p := ⟨b, off + j * 3, none⟩) hbl.out).trans (cjH.out j hjm)
                      have hst2 := any_step (fun y : FieldL => decide (fieldKey y = fieldKey x)) xs m j hjm (by omega)
                      rw [hz.out] at hst2
                      have hkk : decide (fieldKey (xs[j]'(by omega)) = fieldKey x) = ((xs[j]'(by omega)).name.toList == x.name.toList) := (str_eq _ _).symm
                      rw [hkk] at hst2
                      obtain ⟨s, hs⟩ : ∃ s, s = (xs[j]'(by omega)).name := ⟨_, rfl⟩
                      rw [← hs] at hcj hst2
                      have hst2H : Hid (A = ((s.toList == x.name.toList) || (((xs.take m).drop (j + 1)).any fun y => decide (fieldKey y = fieldKey x)))) := hst2
                      clear hst2 hkk hs hz
                      cases he : (s.toList == x.name.toList) with
                      | true =>
                        rw [he] at hst2H
                        go_wp2
                        go_quiet (fail)
                        go_wp2
                        go_ret
                        exact ⟨by rw [hRt.out, hst2H.out]; rfl, by rw [hw.out]; exact below_drewN (below_drewN hBn.out.hb _) _⟩
                      | false =>
                        rw [he] at hst2H
                        go_wp2
                        go_quiet (fail)
                        go_wp2
                        go_roundw
                        case rel => exact ⟨j + 1, _, by omega, by go_num, (show _ = A by rw [hst2H.out]; rfl), (by rw [hw.out]; exact drewN_all _ _ _)⟩
                        case measure => simp [intOf]; omega
                    · have hA0 : A = false := by rw [← hz.out]; exact any_done _ xs m j hjm
                      subst hA0
                      go_wp2
                      go_roundw
                      case rel => exact ⟨m + 1, by omega, by go_num, (show _ = R by rw [hRt.out, hFRH.out]; rfl), (by rw [hw.out]; exact hBn.out.drew _)⟩
                      case measure => simp [intOf]; omega
            · skip
              cases h8 : hasB f 128 <;> rw [h8] at hok
              · have hb3 : True := trivial
                have hRt : Hid (R = (!A && FR)) := by show R = _; rw [hstepH.out, ← hok]; rfl
                clear hok hstepH
                go_wp2_with (first | (go_at_call 23; refine (nH.out _).mono ?_; rintro e w2 ⟨rfl, rfl⟩) | (go_at_call 48; refine (tH.out _).mono ?_; rintro e w2 ⟨rfl, rfl⟩) | (go_at_call 25; refine (gH.out _).mono ?_; rintro e w2 ⟨rfl, rfl⟩) | (go_at_call 26; refine (fH.out _ _ _).mono ?_; rintro e w2 ⟨rfl, rfl⟩))
                go_loopw [5] (fun i wr => ∃ j d : Nat, j ≤ m ∧ i = .int .i64 j ∧ Hid ((((xs.take m).drop j).any fun y => decide (fieldKey y = fieldKey x)) = A) ∧ Hid (wr = (wo.alloc (.cells #[.string x.name, .string x.ty, .int .i64 x.flags] 73)).drewN d)) (fun i _ => m - (intOf i).toNat)
                case atStart => exact ⟨0, 0, Nat.zero_le _, rfl, hAH.out, rfl⟩
                case round =>
                  obtain ⟨j, d, hj, rfl, hz, hw⟩ := hrel
                  have q5 : wr.cell? ⟨w.heap.size, 5, none⟩ = some (.slice (some ⟨b, off, none⟩) n3 c3) := by rw [hw.out]; exact z5
                  have q0 : wr.cell? ⟨wo.heap.size, 0, none⟩ = some (.string x.name) := by rw [hw.out]; exact cell_lastC _ _ _ _ 0 rfl
                  clear z3 z5 y3 y5
                  by_cases hjm : j < m
                  · have hjn : (j : Int) < (n3 : Int) := by omega
                    have hjm' : (j : Int) < (m : Int) := by omega
                    have hcj : wr.cell? ⟨b, off + j * 3, none⟩ = some (.string (xs[j]'(by omega)).name) := by
                      rw [hw.out]
                      exact ((below_1 wo _).cell (p := ⟨b, off + j * 3, none⟩) hbl.out).trans (cjH.out j hjm)
                    have hst2 := any_step (fun y : FieldL => decide (fieldKey y = fieldKey x)) xs m j hjm (by omega)
                    rw [hz.out] at hst2
                    have hkk : decide (fieldKey (xs[j]'(by omega)) = fieldKey x) = ((xs[j]'(by omega)).name.toList == x.name.toList) := (str_eq _ _).symm
                    rw [hkk] at hst2
                    obtain ⟨s, hs⟩ : ∃ s, s = (xs[j]'(by omega)).name := ⟨_, rfl⟩
                    rw [← hs] at hcj hst2
                    have hst2H : Hid (A = ((s.toList == x.name.toList) || (((xs.take m).drop (j + 1)).any fun y => decide (fieldKey y = fieldKey x)))) := hst2
                    clear hst2 hkk hs hz
                    cases he : (s.toList == x.name.toList) with
                    | true =>
                      rw [he] at hst2H
                      go_wp2
                      go_quiet (fail)
                      go_wp2
                      go_ret
                      exact ⟨by rw [hRt.out, hst2H.out]; rfl, by rw [hw.out]; exact below_drewN (below_drewN hBn.out.hb _) _⟩
                    | false =>
                      rw [he] at hst2H
                      go_wp2
                      go_quiet (fail)
                      go_wp2
                      go_roundw
                      case rel => exact ⟨j + 1, _, by omega, by go_num, (show _ = A by rw [hst2H.out]; rfl), (by rw [hw.out]; exact drewN_all _ _ _)⟩
                      case measure => simp [intOf]; omega
                  · have hA0 : A = false := by rw [← hz.out]; exact any_done _ xs m j hjm
                    subst hA0
                    go_wp2
                    go_roundw
                    case rel => exact ⟨m + 1, by omega, by go_num, (show _ = R by rw [hRt.out, hFRH.out]; rfl), (by rw [hw.out]; exact hBn.out.drew _)⟩
                    case measure => simp [intOf]; omega
              · cases hb3 : (x.flags == 3) <;> rw [hb3] at hok
                · have hbn : (x.flags != 3) = true := by simp only [bne, hb3]; rfl
                  have hRf : R = false := by rw [hstepH.out, ← hok]; rfl
                  subst hRf
                  clear hok
                  go_wp2_with (first | (go_at_call 23; refine (nH.out _).mono ?_; rintro e w2 ⟨rfl, rfl⟩) | (go_at_call 48; refine (tH.out _).mono ?_; rintro e w2 ⟨rfl, rfl⟩) | (go_at_call 25; refine (gH.out _).mono ?_; rintro e w2 ⟨rfl, rfl⟩) | (go_at_call 26; refine (fH.out _ _ _).mono ?_; rintro e w2 ⟨rfl, rfl⟩))
                  go_ret
                  exact ⟨rfl, hBn.out.hb⟩
                · have hbn : (x.flags != 3) = false := by simp only [bne, hb3]; rfl
                  have hRt : Hid (R = (!A && FR)) := by show R = _; rw [hstepH.out, ← hok]; rfl
                  clear hok hstepH
                  go_wp2_with (first | (go_at_call 23; refine (nH.out _).mono ?_; rintro e w2 ⟨rfl, rfl⟩) | (go_at_call 48; refine (tH.out _).mono ?_; rintro e w2 ⟨rfl, rfl⟩) | (go_at_call 25; refine (gH.out _).mono ?_; rintro e w2 ⟨rfl, rfl⟩) | (go_at_call 26; refine (fH.out _ _ _).mono ?_; rintro e w2 ⟨rfl, rfl⟩))
                  go_loopw [5] (fun i wr => ∃ j d : Nat, j ≤ m ∧ i = .int .i64 j ∧ Hid ((((xs.take m).drop j).any fun y => decide (fieldKey y = fieldKey x)) = A) ∧ Hid (wr = (wo.alloc (.cells #[.string x.name, .string x.ty, .int .i64 x.flags] 73)).drewN d)) (fun i _ => m - (intOf i).toNat)
                  case atStart => exact ⟨0, 0, Nat.zero_le _, rfl, hAH.out, rfl⟩
                  case round =>
                    obtain ⟨j, d, hj, rfl, hz, hw⟩ := hrel
                    have q5 : wr.cell? ⟨w.heap.size, 5, none⟩ = some (.slice (some ⟨b, off, none⟩) n3 c3) := by rw [hw.out]; exact z5
                    have q0 : wr.cell? ⟨wo.heap.size, 0, none⟩ = some (.string x.name) := by rw [hw.out]; exact cell_lastC _ _ _ _ 0 rfl
                    clear z3 z5 y3 y5
                    by_cases hjm : j < m
                    · have hjn : (j : Int) < (n3 : Int) := by omega
                      have hjm' : (j : Int) < (m : Int) := by omega
                      have hcj : wr.cell? ⟨b, off + j * 3, none⟩ = some (.string (xs[j]'(by omega)).name) := by
                        rw [hw.out]
                        exact ((below_1 wo _).cell (p := ⟨b, off + j * 3, none⟩) hbl.out).trans (cjH.out j hjm)
                      have hst2 := any_step (fun y : FieldL => decide (fieldKey y = fieldKey x)) xs m j hjm (by omega)
                      rw [hz.out] at hst2
                      have hkk : decide (fieldKey (xs[j]'(by omega)) = fieldKey x) = ((xs[j]'(by omega)).name.toList == x.name.toList) := (str_eq _ _).symm
                      rw [hkk] at hst2
                      obtain ⟨s, hs⟩ : ∃ s, s = (xs[j]'(by omega)).name := ⟨_, rfl⟩
                      rw [← hs] at hcj hst2
                      have hst2H : Hid (A = ((s.toList == x.name.toList) || (((xs.take m).drop (j + 1)).any fun y => decide (fieldKey y = fieldKey x)))) := hst2
                      clear hst2 hkk hs hz
                      cases he : (s.toList == x.name.toList) with
                      | true =>
                        rw [he] at hst2H
                        go_wp2
                        go_quiet (fail)
                        go_wp2
                        go_ret
                        exact ⟨by rw [hRt.out, hst2H.out]; rfl, by rw [hw.out]; exact below_drewN (below_drewN hBn.out.hb _) _⟩
                      | false =>
                        rw [he] at hst2H
                        go_wp2
                        go_quiet (fail)
                        go_wp2
                        go_roundw
                        case rel => exact ⟨j + 1, _, by omega, by go_num, (show _ = A by rw [hst2H.out]; rfl), (by rw [hw.out]; exact drewN_all _ _ _)⟩
                        case measure => simp [intOf]; omega
                    · have hA0 : A = false := by rw [← hz.out]; exact any_done _ xs m j hjm
                      subst hA0
                      go_wp2
                      go_roundw
                      case rel => exact ⟨m + 1, by omega, by go_num, (show _ = R by rw [hRt.out, hFRH.out]; rfl), (by rw [hw.out]; exact hBn.out.drew _)⟩
                      case measure => simp [intOf]; omega
            · skip
              cases h8 : hasB f 128 <;> rw [h8] at hok
              · have hb3 : True := trivial
                have hRt : Hid (R = (!A && FR)) := by show R = _; rw [hstepH.out, ← hok]; rfl
                clear hok hstepH
                go_wp2_with (first | (go_at_call 23; refine (nH.out _).mono ?_; rintro e w2 ⟨rfl, rfl⟩) | (go_at_call 48; refine (tH.out _).mono ?_; rintro e w2 ⟨rfl, rfl⟩) | (go_at_call 25; refine (gH.out _).mono ?_; rintro e w2 ⟨rfl, rfl⟩) | (go_at_call 26; refine (fH.out _ _ _).mono ?_; rintro e w2 ⟨rfl, rfl⟩))
                go_loopw [5] (fun i wr => ∃ j d : Nat, j ≤ m ∧ i = .int .i64 j ∧ Hid ((((xs.take m).drop j).any fun y => decide (fieldKey y = fieldKey x)) = A) ∧ Hid (wr = (wo.alloc (.cells #[.string x.name, .string x.ty, .int .i64 x.flags] 73)).drewN d)) (fun i _ => m - (intOf i).toNat)
                case atStart => exact ⟨0, 0, Nat.zero_le _, rfl, hAH.out, rfl⟩
                case round =>
                  obtain ⟨j, d, hj, rfl, hz, hw⟩ := hrel
                  have q5 : wr.cell? ⟨w.heap.size, 5, none⟩ = some (.slice (some ⟨b, off, none⟩) n3 c3) := by rw [hw.out]; exact z5
                  have q0 : wr.cell? ⟨wo.heap.size, 0, none⟩ = some (.string x.name) := by rw [hw.out]; exact cell_lastC _ _ _ _ 0 rfl
                  clear z3 z5 y3 y5
                  by_cases hjm : j < m
                  · have hjn : (j : Int) < (n3 : Int) := by omega
                    have hjm' : (j : Int) < (m : Int) := by omega
                    have hcj : wr.cell? ⟨b, off + j * 3, none⟩ = some (.string (xs[j]'(by omega)).name) := by
                      rw [hw.out]
                      exact ((below_1 wo _).cell (p := ⟨b, off + j * 3, none⟩) hbl.out).trans (cjH.out j hjm)
                    have hst2 := any_step (fun y : FieldL => decide (fieldKey y = fieldKey x)) xs m j hjm (by omega)
                    rw [hz.out] at hst2
                    have hkk : decide (fieldKey (xs[j]'(by omega)) = fieldKey x) = ((xs[j]'(by omega)).name.toList == x.name.toList) := (str_eq _ _).symm
                    rw [hkk] at hst2
                    obtain ⟨s, hs⟩ : ∃ s, s = (xs[j]'(by omega)).name := ⟨_, rfl⟩
                    rw [← hs] at hcj hst2
                    have hst2H : Hid (A = ((s.toList == x.name.toList) || (((xs.take m).drop (j + 1)).any fun y => decide (fieldKey y = fieldKey x)))) := hst2
                    clear hst2 hkk hs hz
                    cases he : (s.toList == x.name.toList) with
                    | true =>
                      rw [he] at hst2H
                      go_wp2
                      go_quiet (fail)
                      go_wp2
                      go_ret
                      exact ⟨by rw [hRt.out, hst2H.out]; rfl, by rw [hw.out]; exact below_drewN (below_drewN hBn.out.hb _) _⟩
                    | false =>
                      rw [he] at hst2H
                      go_wp2
                      go_quiet (fail)
                      go_wp2
                      go_roundw
                      case rel => exact ⟨j + 1, _, by omega, by go_num, (show _ = A by rw [hst2H.out]; rfl), (by rw [hw.out]; exact drewN_all _ _ _)⟩
                      case measure => simp [intOf]; omega
                  · have hA0 : A = false := by rw [← hz.out]; exact any_done _ xs m j hjm
                    subst hA0
                    go_wp2
                    go_roundw
                    case rel => exact ⟨m + 1, by omega, by go_num, (show _ = R by rw [hRt.out, hFRH.out]; rfl), (by rw [hw.out]; exact hBn.out.drew _)⟩
                    case measure => simp [intOf]; omega
              · cases hb3 : (x.flags == 3) <;> rw [hb3] at hok
                · have hbn : (x.flags != 3) = true := by simp only [bne, hb3]; rfl
                  have hRf : R = false := by rw [hstepH.out, ← hok]; rfl
                  subst hRf
                  clear hok
                  go_wp2_with (first | (go_at_call 23; refine (nH.out _).mono ?_; rintro e w2 ⟨rfl, rfl⟩) | (go_at_call 48; refine (tH.out _).mono ?_; rintro e w2 ⟨rfl, rfl⟩) | (go_at_call 25; refine (gH.out _).mono ?_; rintro e w2 ⟨rfl, rfl⟩) | (go_at_call 26; refine (fH.out _ _ _).mono ?_; rintro e w2 ⟨rfl, rfl⟩))
                  go_ret
                  exact ⟨rfl, hBn.out.hb⟩
                · have hbn : (x.flags != 3) = false := by simp only [bne, hb3]; rfl
                  have hRt : Hid (R = (!A && FR)) := by show R = _; rw [hstepH.out, ← hok]; rfl
                  clear hok hstepH
                  go_wp2_with (first | (go_at_call 23; refine (nH.out _).mono ?_; rintro e w2 ⟨rfl, rfl⟩) | (go_at_call 48; refine (tH.out _).mono ?_; rintro e w2 ⟨rfl, rfl⟩) | (go_at_call 25; refine (gH.out _).mono ?_; rintro e w2 ⟨rfl, rfl⟩) | (go_at_call 26; refine (fH.out _ _ _).mono ?_; rintro e w2 ⟨rfl, rfl⟩))
                  go_loopw [5] (fun i wr => ∃ j d : Nat, j ≤ m ∧ i = .int .i64 j ∧ Hid ((((xs.take m).drop j).any fun y => decide (fieldKey y = fieldKey x)) = A) ∧ Hid (wr = (wo.alloc (.cells #[.string x.name, .string x.ty, .int .i64 x.flags] 73)).drewN d)) (fun i _ => m - (intOf i).toNat)
                  case atStart => exact ⟨0, 0, Nat.zero_le _, rfl, hAH.out, rfl⟩
                  case round =>
                    obtain ⟨j, d, hj, rfl, hz, hw⟩ := hrel
                    have q5 : wr.cell? ⟨w.heap.size, 5, none⟩ = some (.slice (some ⟨b, off, none⟩) n3 c3) := by rw [hw.out]; exact z5
                    have q0 : wr.cell? ⟨wo.heap.size, 0, none⟩ = some (.string x.name) := by rw [hw.out]; exact cell_lastC _ _ _ _ 0 rfl
                    clear z3 z5 y3 y5
                    by_cases hjm : j < m
                    · have hjn : (j : Int) < (n3 : Int) := by omega
                      have hjm' : (j : Int) < (m : Int) := by omega
                      have hcj : wr.cell? ⟨b, off + j * 3, none⟩ = some (.string (xs[j]'(by omega)).name) := by
                        rw [hw.out]
                        exact ((below_1 wo _).cell (p := ⟨b, off + j * 3, none⟩) hbl.out).trans (cjH.out j hjm)
                      have hst2 := any_step (fun y : FieldL => decide (fieldKey y = fieldKey x)) xs m j hjm (by omega)
                      rw [hz.out] at hst2
                      have hkk : decide (fieldKey (xs[j]'(by omega)) = fieldKey x) = ((xs[j]'(by omega)).name.toList == x.name.toList) := (str_eq _ _).symm
                      rw [hkk] at hst2
                      obtain ⟨s, hs⟩ : ∃ s, s = (xs[j]'(by omega)).name := ⟨_, rfl⟩
                      rw [← hs] at hcj hst2
                      have hst2H : Hid (A = ((s.toList == x.name.toList) || (((xs.take m).drop (j + 1)).any fun y => decide (fieldKey y = fieldKey x)))) := hst2
                      clear hst2 hkk hs hz
                      cases he : (s.toList == x.name.toList) with
                      | true =>
                        rw [he] at hst2H
                        go_wp2
                        go_quiet (fail)
                        go_wp2
                        go_ret
                        exact ⟨by rw [hRt.out, hst2H.out]; rfl, by rw [hw.out]; exact below_drewN (below_drewN hBn.out.hb _) _⟩
                      | false =>
                        rw [he] at hst2H
                        go_wp2
                        go_quiet (fail)
                        go_wp2
                        go_roundw
                        case rel => exact ⟨j + 1, _, by omega, by go_num, (show _ = A by rw [hst2H.out]; rfl), (by rw [hw.out]; exact drewN_all _ _ _)⟩
                        case measure => simp [intOf]; omega
                    · have hA0 : A = false := by rw [← hz.out]; exact any_done _ xs m j hjm
                      subst hA0
                      go_wp2
                      go_roundw
                      case rel => exact ⟨m + 1, by omega, by go_num, (show _ = R by rw [hRt.out, hFRH.out]; rfl), (by rw [hw.out]; exact hBn.out.drew _)⟩
                      case measure => simp [intOf]; omega
            · skip
              have hRf : R = false := by rw [hstepH.out, ← hok]; rfl
              subst hRf
              clear hok
              go_wp2_with (first | (go_at_call 23; refine (nH.out _).mono ?_; rintro e w2 ⟨rfl, rfl⟩) | (go_at_call 48; refine (tH.out _).mono ?_; rintro e w2 ⟨rfl, rfl⟩) | (go_at_call 25; refine (gH.out _).mono ?_; rintro e w2 ⟨rfl, rfl⟩) | (go_at_call 26; refine (fH.out _ _ _).mono ?_; rintro e w2 ⟨rfl, rfl⟩))
              go_ret
              exact ⟨rfl, hBn.out.hb⟩
    · have hend := hz.out
      rw [List.drop_eq_nil_of_le (by rw [hxH.out]; omega)] at hend
      have hR : R = true := hend.symm
      subst hR
      clear hend
      go_wp2
      go_ret
      exact ⟨rfl, hB.out.hb⟩
end Go.Proofs.YthbledmeghkfpaaGreatDoor
