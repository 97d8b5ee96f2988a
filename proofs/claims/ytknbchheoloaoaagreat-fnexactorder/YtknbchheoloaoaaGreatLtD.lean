/- The specification's answer on a litmus test. -/
import Derived.Test.YtknbchheoloaoaaGreatLtC
namespace Go.Proofs.YtknbchheoloaoaaGreat
set_option linter.unusedVariables false
open Go.ChangeShapes Go.WideShapes Go.ChangeAt Go.RowKit

def litHead (x : LitL) : Bool := btw x.vars 0 4 && (btw x.vol 0 x.vars && (btw x.locks 0 2 && (decide (1 ≤ x.thr.length) && decide (x.thr.length ≤ 3))))
def litB (x : LitL) : Bool := litHead x && x.thr.all (threadB x.vars x.locks)
theorem all_drop_false {f : List ActL → Bool} {l : List (List ActL)} {i : Nat} (h : i < l.length) (hf : f l[i] = false) : (l.drop i).all f = false := by
 rw [List.drop_eq_getElem_cons h, List.all_cons, hf, Bool.false_and]
theorem all_drop_true {f : List ActL → Bool} {l : List (List ActL)} {i : Nat} (h : i < l.length) (hf : f l[i] = true) : (l.drop i).all f = (l.drop (i + 1)).all f := by
 rw [List.drop_eq_getElem_cons h, List.all_cons, hf, Bool.true_and]

structure LitW (w wr : World) (vars vol locks : Int) (tv : Value) : Prop where
 hb : Below w.heap.size w wr
 sz : w.heap.size + 1 ≤ wr.heap.size
 c0 : wr.cell? ⟨w.heap.size, 0, none⟩ = some (.int .i64 vars)
 c1 : wr.cell? ⟨w.heap.size, 1, none⟩ = some (.int .i64 vol)
 c2 : wr.cell? ⟨w.heap.size, 2, none⟩ = some (.int .i64 locks)
 c3 : wr.cell? ⟨w.heap.size, 3, none⟩ = some tv
theorem LitW.start (w : World) (vars vol locks : Int) (tv : Value) (t : TypeId) : LitW w (w.alloc (.cells #[.int .i64 vars, .int .i64 vol, .int .i64 locks, tv] t)) vars vol locks tv := by
 have h := rangeAt_heap (heap_alloc_new w (.cells #[.int .i64 vars, .int .i64 vol, .int .i64 locks, tv] t))
 exact ⟨below_1 _ _, by simp, h 0 _ rfl, h 1 _ rfl, h 2 _ rfl, h 3 _ rfl⟩
theorem LitW.on {w wr w' : World} {vars vol locks : Int} {tv : Value} (h : LitW w wr vars vol locks tv) (hb : Below wr.heap.size wr w') : LitW w w' vars vol locks tv := by
 obtain ⟨h1, h2, h3, h4, h5, h6⟩ := h
 have := hb.size
 have e : ∀ o, w'.cell? ⟨w.heap.size, o, none⟩ = wr.cell? ⟨w.heap.size, o, none⟩ := fun o => hb.cell (p := ⟨w.heap.size, o, none⟩) (by show w.heap.size < _; omega)
 exact ⟨below_on h1 hb, by omega, by rw [e]; exact h3, by rw [e]; exact h4, by rw [e]; exact h5, by rw [e]; exact h6⟩

set_option maxRecDepth 1000000 in
set_option maxHeartbeats 4000000 in
theorem litS_calls (x : LitL) (w : World) (row : List Value) (lo hi : Nat) (hh : hi ≤ w.heap.size) (hx : LitR true lo hi w row x) (hs : x.small) :
  Calls Tryz.prog 17 #[.agg row.toArray] w fun e w' => e = .returned (.bool (litB x)) ∧ Below w.heap.size w w' := by
 obtain ⟨v, rfl, hv⟩ := hx
 obtain ⟨ta, tc, rfl⟩ := hv.form
 have hvH : Hid (∀ W, Below w.heap.size w W → ListAt ThrR 1 true lo hi W (.slice ta x.thr.length tc) x.thr) := fun W hW => hv.kept ThrR.stable (Nat.le_refl _) (Nat.le_refl _) ((Same.below hW).mono (Nat.zero_le _) hh)
 have hhH : Hid (hi ≤ w.heap.size) := hh
 have hsH : Hid (∀ y ∈ x.thr, y.length ≤ 1048576) := hs.2
 have hn : x.thr.length ≤ 1048576 := hs.1
 clear hv hh hs
 have hLW : Hid (LitW w (w.alloc (.cells #[.int .i64 x.vars, .int .i64 x.vol, .int .i64 x.locks, .slice ta x.thr.length tc] 34)) x.vars x.vol x.locks (.slice ta x.thr.length tc)) := LitW.start _ _ _ _ _ _
 have hB : Hid (litB x = (litHead x && x.thr.all (threadB x.vars x.locks))) := rfl
 have hHd : Hid (litHead x = (btw x.vars 0 4 && (btw x.vol 0 x.vars && (btw x.locks 0 2 && (decide (1 ≤ x.thr.length) && decide (x.thr.length ≤ 3)))))) := rfl
 generalize litB x = tb at hB ⊢
 have hall : Hid (∀ i (h : i < x.thr.length), threadB x.vars x.locks x.thr[i] = false → (x.thr.drop i).all (threadB x.vars x.locks) = false) := fun i h hf => all_drop_false h hf
 have hall' : Hid (∀ i (h : i < x.thr.length), threadB x.vars x.locks x.thr[i] = true → (x.thr.drop i).all (threadB x.vars x.locks) = (x.thr.drop (i + 1)).all (threadB x.vars x.locks)) := fun i h hf => all_drop_true h hf
 by_cases q0 : btw x.vars 0 4 = true
 ·by_cases q1 : btw x.vol 0 x.vars = true
  ·by_cases q2 : btw x.locks 0 2 = true
   ·by_cases q3 : 1 ≤ x.thr.length
    ·by_cases q4 : x.thr.length ≤ 3
     ·have q3' : (1 : Int) ≤ x.thr.length := by omega
      have q4' : (x.thr.length : Int) ≤ 3 := by omega
      have hT : Hid (tb = (x.thr.drop 0).all (threadB x.vars x.locks)) := by
       show _ = _
       rw [hB.out, hHd.out, q0, q1, q2]; simp [q3, q4]
      have b0 : 0 ≤ x.vars ∧ x.vars ≤ 4 := by simpa [btw] using q0
      have b2 : 0 ≤ x.locks ∧ x.locks ≤ 2 := by simpa [btw] using q2
      have htc : Hid (∀ (W : World) (ua : Option Addr) (uc : Nat) (y : List ActL), y ∈ x.thr → hi ≤ W.heap.size → ListAt ActR 3 true lo hi W (.slice ua y.length uc) y → Calls Tryz.prog 41 #[.agg #[.int .i64 x.vars, .int .i64 x.vol, .int .i64 x.locks, .slice ta x.thr.length tc], .slice ua y.length uc] W fun e w' => e = .returned (.bool (threadB x.vars x.locks y)) ∧ Below W.heap.size W w') := fun W ua uc y hy hW hl => thread_calls _ _ _ _ _ _ _ _ lo hi hW b0.1 b0.2 b2.1 b2.2 hl ⟨_, _, _, rfl⟩ (hsH.out y hy)
      clear b0 b2 hB hHd
      go_enter Tryz.func17, Tryz.ntmps17
      go_wp2_with (first | (go_at_call 40; refine (between_calls _ _ _ _).mono ?_; rintro e w' ⟨rfl, rfl⟩))
      go_loopw [3] (fun iv wr => ∃ i : Nat, i ≤ x.thr.length ∧ iv = .int .i64 i ∧ Hid (LitW w wr x.vars x.vol x.locks (.slice ta x.thr.length tc)) ∧ Hid (tb = (x.thr.drop i).all (threadB x.vars x.locks))) (fun iv _ => x.thr.length - (intOf iv).toNat)
      case atStart => exact ⟨0, Nat.zero_le _, rfl, hLW, hT⟩
      case round =>
       obtain ⟨i, hi', rfl, hL, hT⟩ := hrel
       obtain ⟨hbL, hszL, c0, c1, c2, c3⟩ := hL.out
       by_cases hlt : i < x.thr.length
       ·have hlt' : (i : Int) < x.thr.length := by omega
        have hi0 : (0 : Int) ≤ i := by omega
        obtain ⟨b, off, row, hta, hbb, hrl, hrr, ⟨u, rfl, hlu⟩⟩ := (hvH.out wr hbL).at i hlt
        obtain ⟨ua, uc, rfl⟩ := hlu.form
        have hcH : Hid (∀ W, Below wr.heap.size wr W → Calls Tryz.prog 41 #[.agg #[.int .i64 x.vars, .int .i64 x.vol, .int .i64 x.locks, .slice ta x.thr.length tc], .slice ua x.thr[i].length uc] W fun e w' => e = .returned (.bool (threadB x.vars x.locks x.thr[i])) ∧ Below W.heap.size W w') := fun W hW =>
         htc.out W ua uc _ (List.getElem_mem hlt) (by have := hW.size; have := hbL.size; have := hhH.out; omega) (hlu.kept ActR.stable (Nat.le_refl _) (Nat.le_refl _) ((Same.below hW).mono (Nat.zero_le _) (by have := hbL.size; have := hhH.out; omega)))
        have hmk : Hid (∀ W, Below wr.heap.size wr W → (Hid (Below wr.heap.size wr W) ∧ W.cell? ⟨w.heap.size, 0, none⟩ = some (.int .i64 x.vars) ∧ W.cell? ⟨w.heap.size, 1, none⟩ = some (.int .i64 x.vol) ∧ W.cell? ⟨w.heap.size, 2, none⟩ = some (.int .i64 x.locks) ∧ W.cell? ⟨w.heap.size, 3, none⟩ = some (.slice ta x.thr.length tc) ∧ W.cell? ⟨b, off + i, none⟩ = some (.slice ua x.thr[i].length uc))) := fun W hW => by
         have l := hL.out.on hW
         have kp := rangeAt_same (Same.below hW) (Nat.zero_le _) (show b < wr.heap.size by have := hbL.size; have := hhH.out; omega) hrr
         exact ⟨hW, l.c0, l.c1, l.c2, l.c3, by simpa using kp 0 _ rfl⟩
        have hx0 := hall.out i hlt
        have hx1 := hall'.out i hlt
        have hx0H : Hid (threadB x.vars x.locks x.thr[i] = false → (x.thr.drop i).all (threadB x.vars x.locks) = false) := hx0
        have hx1H : Hid (threadB x.vars x.locks x.thr[i] = true → (x.thr.drop i).all (threadB x.vars x.locks) = (x.thr.drop (i + 1)).all (threadB x.vars x.locks)) := hx1
        generalize threadB x.vars x.locks x.thr[i] = rb at hcH hx0H hx1H
        generalize x.thr[i].length = ln at hcH hmk
        clear hx0 hx1 hrr hrl hlu hbb c0 c1 c2 c3 hszL
        have hS0 := hmk.out wr (Below.refl _ _)
        subst hta
        cases rb
        ·go_wp2_with fail
         go_region_held3 (fun W => Hid (Below wr.heap.size wr W) ∧ W.cell? ⟨w.heap.size, 0, none⟩ = some (.int .i64 x.vars) ∧ W.cell? ⟨w.heap.size, 1, none⟩ = some (.int .i64 x.vol) ∧ W.cell? ⟨w.heap.size, 2, none⟩ = some (.int .i64 x.locks) ∧ W.cell? ⟨w.heap.size, 3, none⟩ = some (.slice (some ⟨b, off, none⟩) x.thr.length tc) ∧ W.cell? ⟨b, off + i, none⟩ = some (.slice ua ln uc))
          (first | assumption | exact hmk.out _ (Below.drew (Hid.out (And.left (by assumption)))) | exact hmk.out _ (below_on (Hid.out (And.left (by assumption))) (by assumption)))
          (first | (go_at_call 41; refine (hcH.out _ (Hid.out (And.left (by assumption)))).mono ?_; rintro e w2 ⟨rfl, hb2⟩))
         go_wp2
         go_ret
         exact ⟨by rw [hT.out, hx0H.out (by trivial)]; rfl, below_on hbL (Hid.out (And.left (by assumption)))⟩
        ·go_wp2_with fail
         go_region_held3 (fun W => Hid (Below wr.heap.size wr W) ∧ W.cell? ⟨w.heap.size, 0, none⟩ = some (.int .i64 x.vars) ∧ W.cell? ⟨w.heap.size, 1, none⟩ = some (.int .i64 x.vol) ∧ W.cell? ⟨w.heap.size, 2, none⟩ = some (.int .i64 x.locks) ∧ W.cell? ⟨w.heap.size, 3, none⟩ = some (.slice (some ⟨b, off, none⟩) x.thr.length tc) ∧ W.cell? ⟨b, off + i, none⟩ = some (.slice ua ln uc))
          (first | assumption | exact hmk.out _ (Below.drew (Hid.out (And.left (by assumption)))) | exact hmk.out _ (below_on (Hid.out (And.left (by assumption))) (by assumption)))
          (first | (go_at_call 41; refine (hcH.out _ (Hid.out (And.left (by assumption)))).mono ?_; rintro e w2 ⟨rfl, hb2⟩))
         go_wp2
         go_roundw
         case rel => exact ⟨i + 1, by omega, by go_num, hL.out.on (Hid.out (And.left (by assumption))), hT.out.trans (hx1H.out (by trivial))⟩
         case measure => simp [intOf]; omega
       ·have hie : i = x.thr.length := by omega
        have hT2 : Hid (tb = true) := by have := hT.out; rw [hie, List.drop_length] at this; exact this
        go_wp2
        go_ret
        exact ⟨by rw [hT2.out]; rfl, hbL⟩
     ·have q4' : (3 : Int) < x.thr.length := by omega
      have hT : Hid (tb = false) := by show _ = _; rw [hB.out, hHd.out]; simp [q4]
      clear hB hHd
      go_enter Tryz.func17, Tryz.ntmps17
      go_wp2_with (first | (go_at_call 40; refine (between_calls _ _ _ _).mono ?_; rintro e w' ⟨rfl, rfl⟩))
      go_ret
      exact ⟨by rw [hT.out]; rfl, below_1 _ _⟩
    ·have q3' : (x.thr.length : Int) < 1 := by omega
     have hT : Hid (tb = false) := by show _ = _; rw [hB.out, hHd.out]; simp [q3]
     clear hB hHd
     go_enter Tryz.func17, Tryz.ntmps17
     go_wp2_with (first | (go_at_call 40; refine (between_calls _ _ _ _).mono ?_; rintro e w' ⟨rfl, rfl⟩))
     go_ret
     exact ⟨by rw [hT.out]; rfl, below_1 _ _⟩
   ·have q2' : btw x.locks 0 2 = false := by simpa using q2
    have hT : Hid (tb = false) := by show _ = _; rw [hB.out, hHd.out]; simp [q2']
    clear hB hHd
    go_enter Tryz.func17, Tryz.ntmps17
    go_wp2_with (first | (go_at_call 40; refine (between_calls _ _ _ _).mono ?_; rintro e w' ⟨rfl, rfl⟩))
    go_ret
    exact ⟨by rw [hT.out]; rfl, below_1 _ _⟩
  ·have q1' : btw x.vol 0 x.vars = false := by simpa using q1
   have hT : Hid (tb = false) := by show _ = _; rw [hB.out, hHd.out]; simp [q1']
   clear hB hHd
   go_enter Tryz.func17, Tryz.ntmps17
   go_wp2_with (first | (go_at_call 40; refine (between_calls _ _ _ _).mono ?_; rintro e w' ⟨rfl, rfl⟩))
   go_ret
   exact ⟨by rw [hT.out]; rfl, below_1 _ _⟩
 ·have q0' : btw x.vars 0 4 = false := by simpa using q0
  have hT : Hid (tb = false) := by show _ = _; rw [hB.out, hHd.out]; simp [q0']
  clear hB hHd
  go_enter Tryz.func17, Tryz.ntmps17
  go_wp2_with (first | (go_at_call 40; refine (between_calls _ _ _ _).mono ?_; rintro e w' ⟨rfl, rfl⟩))
  go_ret
  exact ⟨by rw [hT.out]; rfl, below_1 _ _⟩
end Go.Proofs.YtknbchheoloaoaaGreat

/- What the program asks of a thread's acts, and what the specification asks: the same. -/
namespace Go.Proofs.YtknbchheoloaoaaGreat
set_option linter.unusedVariables false

def actC (vars locks : Int) (a : ActL) : Bool :=
 if a.kind = 1 then btw a.var 0 (vars - 1) && a.n == 0
 else if a.kind = 2 ∨ a.kind = 3 then btw a.var 0 (vars - 1) && btw a.n (-100) 100
 else if a.kind = 4 ∨ a.kind = 5 then btw a.var 0 (locks - 1) && a.n == 0
 else false
def isL (a : ActL) : Bool := a.kind == 4 || a.kind == 5
def lockStep (v : Int) (h : Bool) (a : ActL) : Bool := if (isL a && a.var == v) = true then a.kind == 4 else h
def hasL (acts : List ActL) (v : Int) : Bool := acts.foldl (lockStep v) false
def badA (pre : List ActL) (a : ActL) : Bool := isL a && (hasL pre a.var == (a.kind == 4))
def okFrom : List ActL → List ActL → Bool
 | _, [] => true
 | pre, a :: l => !badA pre a && okFrom (pre ++ [a]) l
theorem hasL_snoc (pre : List ActL) (a : ActL) (v : Int) : hasL (pre ++ [a]) v = lockStep v (hasL pre v) a := by
 simp [hasL, List.foldl_append]
theorem btw_iff (a lo hi : Int) : btw a lo hi = true ↔ lo ≤ a ∧ a ≤ hi := by simp [btw]
theorem step_eq {vars locks : Int} (hl : locks ≤ 2) (pre : List ActL) (a : ActL) :
  actStep vars locks (hasL pre 0, hasL pre 1) a = if (actC vars locks a && !badA pre a) = true then some (hasL (pre ++ [a]) 0, hasL (pre ++ [a]) 1) else none := by
 obtain ⟨k, v, n⟩ := a
 rw [hasL_snoc, hasL_snoc]
 by_cases h1 : k = 1
 ·subst h1; simp [actStep, actC, badA, isL, lockStep]
 by_cases h2 : k = 2
 ·subst h2; simp [actStep, actC, badA, isL, lockStep]
 by_cases h3 : k = 3
 ·subst h3; simp [actStep, actC, badA, isL, lockStep]
 by_cases h4 : k = 4 ∨ k = 5
 ·by_cases hb : btw v 0 (locks - 1) = true
  ·obtain ⟨b0, b1⟩ := (btw_iff _ _ _).1 hb
   have hv : v = 0 ∨ v = 1 := by omega
   have hk : ((k == 4) || (k == 5)) = true := by rcases h4 with h | h <;> simp [h]
   rcases hv with rfl | rfl
   ·simp only [actStep, actC, badA, isL, lockStep, h1, h2, h3, h4, hb, hk, heldAt, heldSet]
    by_cases hn : n = 0 <;> simp [hn] <;> cases hasL pre 0 <;> cases (k == 4) <;> simp
   ·simp only [actStep, actC, badA, isL, lockStep, h1, h2, h3, h4, hb, hk, heldAt, heldSet]
    by_cases hn : n = 0 <;> simp [hn] <;> cases hasL pre 1 <;> cases (k == 4) <;> simp
  ·have hb' : btw v 0 (locks - 1) = false := by simpa using hb
   simp [actStep, actC, h1, h2, h3, h4, hb']
 ·simp [actStep, actC, h1, h2, h3, h4]
theorem tail_eq {vars locks : Int} (hl : locks ≤ 2) : ∀ (rest pre : List ActL), tailB vars locks (hasL pre 0, hasL pre 1) rest = (rest.all (actC vars locks) && (okFrom pre rest && (!hasL (pre ++ rest) 0 && !hasL (pre ++ rest) 1)))
 | [], pre => by simp [tailB, okFrom]
 | a :: l, pre => by
  rw [tailB, step_eq hl]
  cases hc : actC vars locks a
  ·simp [hc]
  ·cases hb : badA pre a
   ·have := tail_eq (vars := vars) hl l (pre ++ [a])
    simp only [Bool.true_and, Bool.not_false, if_true, List.all_cons, hc, okFrom, hb]
    rw [this]
    simp
   ·simp [hc, okFrom, hb]
theorem thread_eq {vars locks : Int} (hl : locks ≤ 2) (acts : List ActL) : threadB vars locks acts = (decide (acts.length ≤ 4) && (acts.all (actC vars locks) && (okFrom [] acts && (!hasL acts 0 && !hasL acts 1)))) := by
 rw [threadB, show ((false, false) : Bool × Bool) = (hasL [] 0, hasL [] 1) from rfl, tail_eq hl acts []]
 rfl
theorem foldl_none (v : Int) : ∀ (acts : List ActL) (h : Bool), (∀ a ∈ acts, (isL a && a.var == v) = false) → acts.foldl (lockStep v) h = h
 | [], _, _ => rfl
 | a :: l, h, hx => by
  rw [List.foldl_cons, show lockStep v h a = h from by simp [lockStep, hx a (by simp)]]
  exact foldl_none v l h fun b hb => hx b (by simp [hb])
theorem hasL_none {vars locks : Int} {acts : List ActL} (hc : acts.all (actC vars locks) = true) {v : Int} (hv : locks ≤ v) : hasL acts v = false := by
 refine foldl_none v acts false fun a ha => ?_
 have h := List.all_eq_true.1 hc a ha
 obtain ⟨k, u, n⟩ := a
 by_cases hk : k = 4 ∨ k = 5
 ·have h1 : k ≠ 1 := by omega
  have h23 : ¬ (k = 2 ∨ k = 3) := by omega
  simp only [actC, h1, h23, hk, if_true, if_false, Bool.and_eq_true, btw_iff] at h
  have hne : u ≠ v := by omega
  simp [hne]
 ·have : isL ⟨k, u, n⟩ = false := by simp only [isL]; simp; omega
  simp [this]
def endB (acts : List ActL) (j : Nat) : Bool := (decide (1 ≤ j) || !hasL acts 0) && (decide (2 ≤ j) || !hasL acts 1)
theorem endB_zero (acts : List ActL) : endB acts 0 = (!hasL acts 0 && !hasL acts 1) := by simp [endB]
theorem endB_has {acts : List ActL} {j : Nat} (hj : j < 2) (h : hasL acts j = true) : endB acts j = false := by
 rcases (by omega : j = 0 ∨ j = 1) with rfl | rfl
 ·have h : hasL acts 0 = true := h
  simp [endB, h]
 ·have h : hasL acts 1 = true := h
  simp [endB, h]
theorem endB_next {acts : List ActL} {j : Nat} (hj : j < 2) (h : hasL acts j = false) : endB acts j = endB acts (j + 1) := by
 rcases (by omega : j = 0 ∨ j = 1) with rfl | rfl
 ·have h : hasL acts 0 = false := h
  simp [endB, h]
 ·have h : hasL acts 1 = false := h
  simp [endB, h]
theorem endB_end {vars locks : Int} {acts : List ActL} (hc : acts.all (actC vars locks) = true) {j : Nat} (hj : locks ≤ j) : endB acts j = true := by
 have a0 : 1 ≤ j ∨ hasL acts 0 = false := by
  by_cases h : 1 ≤ j
  ·exact .inl h
  ·exact .inr (hasL_none hc (by omega))
 have a1 : 2 ≤ j ∨ hasL acts 1 = false := by
  by_cases h : 2 ≤ j
  ·exact .inl h
  ·exact .inr (hasL_none hc (by omega))
 rcases a0 with h | h <;> rcases a1 with h' | h' <;> simp [endB, h, h']
theorem okFrom_bad {acts : List ActL} {k : Nat} (hk : k < acts.length) (h : badA (acts.take k) acts[k] = true) : okFrom (acts.take k) (acts.drop k) = false := by
 rw [List.drop_eq_getElem_cons hk, okFrom, h]; rfl
theorem okFrom_good {acts : List ActL} {k : Nat} (hk : k < acts.length) (h : badA (acts.take k) acts[k] = false) : okFrom (acts.take k) (acts.drop k) = okFrom (acts.take (k + 1)) (acts.drop (k + 1)) := by
 rw [List.drop_eq_getElem_cons hk, okFrom, h, List.take_succ_eq_append_getElem hk]; rfl
theorem foldl_take_step (v : Int) {acts : List ActL} {k : Nat} (hk : k < acts.length) : hasL (acts.take (k + 1)) v = lockStep v (hasL (acts.take k) v) acts[k] := by
 rw [List.take_succ_eq_append_getElem hk, hasL_snoc]
theorem ListAt.take {α : Type} {R : Rd α} {k : Nat} {own : Bool} {lo hi : Nat} {w : World} {a : Option Addr} {n c : Nat} {xs : List α} (h : ListAt R k own lo hi w (.slice a n c) xs) {m : Nat} (hm : m ≤ xs.length) : ListAt R k own lo hi w (.slice a m c) (xs.take m) := by
 rcases h with ⟨ho, rfl, a', c', hv⟩ | ⟨b, off, c', hv, hlo, hhi, ho, hc⟩
 ·have : m = 0 := by simpa using hm
  subst this
  injection hv with e1 e2 e3
  exact .inl ⟨ho, rfl, a, c, rfl⟩
 ·injection hv with e1 e2 e3
  subst e1 e3
  have hlen : (xs.take m).length = m := by simp [hm]
  refine .inr ⟨b, off, c, by rw [hlen], hlo, hhi, fun h => ⟨(ho h).1, ?_, ?_⟩, fun j hj => ?_⟩
  ·rw [hlen]
   exact there_part (ho h).2.1 (by rw [Nat.zero_add]; exact Nat.mul_le_mul_right k hm)
  ·rw [hlen]
   exact Nat.le_trans hm (ho h).2.2
  ·rw [hlen] at hj
   obtain ⟨row, hl, hr, hx, hy⟩ := hc j (by omega)
   exact ⟨row, hl, hr, by rw [List.getElem_take]; exact hx, fun h => by rw [List.getElem_take]; exact hy h⟩
theorem ListAt.cap {α : Type} {R : Rd α} {k : Nat} {lo hi : Nat} {w : World} {a : Option Addr} {n c : Nat} {xs : List α} (h : ListAt R k true lo hi w (.slice a n c) xs) : xs.length ≤ c := by
 rcases h with ⟨ho, _⟩ | ⟨b, off, c', hv, hlo, hhi, ho, hc⟩
 ·cases ho
 ·injection hv with e1 e2 e3
  subst e3
  exact (ho rfl).2.2
end Go.Proofs.YtknbchheoloaoaaGreat
