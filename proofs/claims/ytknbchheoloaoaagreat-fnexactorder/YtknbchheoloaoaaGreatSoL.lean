/- spec.l9Sign, l11CompareRow, l11Less. -/
import Derived.Test.YtknbchheoloaoaaGreatSoK
namespace Go.Proofs.YtknbchheoloaoaaGreat
set_option linter.unusedVariables false
open Go.ChangeShapes Go.WideShapes Go.ChangeAt Go.RowKit

def signI (a b : Int) : Int := if a < b then -1 else if b < a then 1 else 0
def cmpL : List Int → List Int → Int
 | [], [] => 0
 | [], _ :: _ => -1
 | _ :: _, [] => 1
 | x :: l, y :: m => if x < y then -1 else if y < x then 1 else cmpL l m
theorem cmpL_end : ∀ (l m : List Int), l = [] ∨ m = [] → cmpL l m = signI l.length m.length
 | [], [], _ => rfl
 | [], _ :: _, _ => by first | (simp [cmpL, signI]; done) | (simp [cmpL, signI]; omega)
 | _ :: _, [], _ => by first | (simp [cmpL, signI]; done) | (simp [cmpL, signI]; omega)
 | x :: l, y :: m, h => by simp at h
theorem cmpL_ne {x y : Int} {l m : List Int} (h : x ≠ y) : cmpL (x :: l) (y :: m) = signI x y := by
 unfold cmpL signI
 by_cases h1 : x < y
 ·simp [h1]
 ·have : y < x := by omega
  simp [h1, this]
theorem cmpL_eq (x : Int) (l m : List Int) : cmpL (x :: l) (x :: m) = cmpL l m := by
 conv => lhs; unfold cmpL
 simp
set_option maxRecDepth 1000000 in
theorem sign_calls (a b : Int) (w : World) : Calls Tryz.prog 85 #[.int .i64 a, .int .i64 b] w fun e w' => e = .returned (.int .i64 (signI a b)) ∧ w' = w := by
 by_cases h1 : a < b
 ·have hr : signI a b = -1 := by simp [signI, h1]
  go_enter Tryz.func85, Tryz.ntmps85
  go_wp2
  go_ret
  exact ⟨by first | rfl | (rw [hr]; rfl), rfl⟩
 ·by_cases h2 : b < a
  ·have hr : signI a b = 1 := by simp [signI, h1, h2]
   go_enter Tryz.func85, Tryz.ntmps85
   go_wp2
   go_ret
   exact ⟨by first | rfl | (rw [hr]; rfl), rfl⟩
  ·have hr : signI a b = 0 := by simp [signI, h1, h2]
   go_enter Tryz.func85, Tryz.ntmps85
   go_wp2
   go_ret
   exact ⟨by first | rfl | (rw [hr]; rfl), rfl⟩

set_option maxRecDepth 1000000 in
set_option maxHeartbeats 2000000 in
theorem compareRow_calls (u v : Value) (zs ys : List Int) (w : World) (hu : w.ownsRow 0 2 1 u zs.length (intsV zs)) (hv : w.ownsRow 0 2 1 v ys.length (intsV ys)) (hz : zs.length ≤ 1000) (hy : ys.length ≤ 1000) :
  Calls Tryz.prog 65 #[u, v] w fun e w' => e = .returned (.int .i64 (cmpL zs ys)) ∧ Below w.heap.size w w' := by
 obtain ⟨ua, uc, rfl⟩ := own_form hu
 obtain ⟨va, vc, rfl⟩ := own_form hv
 have huH : Hid (w.ownsRow 0 2 1 (.slice ua zs.length uc) zs.length (intsV zs)) := hu
 have hvH : Hid (w.ownsRow 0 2 1 (.slice va ys.length vc) ys.length (intsV ys)) := hv
 have hR0 : Hid (cmpL zs ys = cmpL (zs.drop 0) (ys.drop 0)) := rfl
 generalize cmpL zs ys = R at hR0 ⊢
 clear hu hv
 go_enter Tryz.func65, Tryz.ntmps65
 go_wp2
 go_loopw [5] (fun i wr => ∃ m n : Nat, m ≤ zs.length ∧ m ≤ ys.length ∧ i = .int .i64 m ∧ wr = w.drewN n ∧ Hid (R = cmpL (zs.drop m) (ys.drop m))) (fun i _ => zs.length - (intOf i).toNat)
 case atStart => exact ⟨0, 0, Nat.zero_le _, Nat.zero_le _, rfl, rfl, hR0⟩
 case round =>
  obtain ⟨m, n, hm1, hm2, rfl, rfl, hI⟩ := hrel
  clear hR0
  by_cases h1 : m < zs.length
  ·have h1' : (m : Int) < zs.length := by omega
   by_cases h2 : m < ys.length
   ·have h2' : (m : Int) < ys.length := by omega
    obtain ⟨b1, c1, e1, hc1, _, _, q1, _⟩ := intCell huH.out h1
    obtain ⟨b2, c2, e2, hc2, _, _, q2, _⟩ := intCell hvH.out h2
    obtain ⟨rfl, rfl⟩ : ua = some ⟨b1, 0, none⟩ ∧ uc = c1 := by injection e1 with x1 x2 x3; exact ⟨x1, x3⟩
    obtain ⟨rfl, rfl⟩ : va = some ⟨b2, 0, none⟩ ∧ vc = c2 := by injection e2 with x1 x2 x3; exact ⟨x1, x3⟩
    have hI2 : Hid (R = cmpL (zs[m] :: zs.drop (m + 1)) (ys[m] :: ys.drop (m + 1))) := by show _ = _; rw [hI.out, List.drop_eq_getElem_cons h1, List.drop_eq_getElem_cons h2]
    generalize zs[m] = x at *
    generalize ys[m] = y at *
    clear e1 e2 hI
    by_cases hxy : x = y
    ·subst hxy
     have hI3 : Hid (R = cmpL (zs.drop (m + 1)) (ys.drop (m + 1))) := by show _ = _; rw [hI2.out, cmpL_eq]
     have hxx : (x != x) = false := by simp
     clear hI2
     go_wp2
     try go_quiet (fail)
     try go_wp2
     go_roundw
     case rel => exact ⟨m + 1, _, by omega, by omega, by go_num, rfl, hI3⟩
     case measure => simp [intOf]; omega
    ·have hI3 : Hid (R = signI x y) := by show _ = _; rw [hI2.out, cmpL_ne hxy]
     have hxb : (x != y) = true := by simpa using hxy
     clear hI2
     go_wp2_with fail
     go_quiet (fail)
     have hB1 : Hid (Below w.heap.size w ((w.drewN n).drewN nq)) := below_drewN (below_drewN (Below.refl _ _) _) _
     have q1' : ((w.drewN n).drewN nq).cell? ⟨b1, m, none⟩ = some (.int .i64 x) := q1
     have q2' : ((w.drewN n).drewN nq).cell? ⟨b2, m, none⟩ = some (.int .i64 y) := q2
     generalize (w.drewN n).drewN nq = W1 at *
     go_wp2_with fail
     go_quiet ((go_at_call 85; exact Calls.quiet_of_same (sign_calls _ _ _)))
     go_wp2
     go_ret
     exact ⟨by rw [hI3.out]; rfl, by repeat (first | exact hB1.out | refine below_drewN ?_ _ | apply Below.drew)⟩
   ·have hI3 : Hid (R = signI zs.length ys.length) := by
     show _ = _
     rw [hI.out, cmpL_end _ _ (.inr (List.drop_eq_nil_of_le (by omega)))]
     simp only [List.length_drop, signI]
     have e2 : ys.length - m = 0 := by omega
     have e3 : (zs.length - m : Nat) > 0 := by omega
     rw [e2]
     simp; omega
    clear hI
    have h2' : ¬ ((m : Int) < ys.length) := by omega
    go_wp2_with (go_at_call 85; refine (sign_calls _ _ _).mono ?_; rintro e w' ⟨rfl, rfl⟩)
    go_ret
    exact ⟨by rw [hI3.out]; rfl, by repeat (first | exact Below.refl _ _ | refine below_drewN ?_ _ | apply Below.drew)⟩
  ·have hI3 : Hid (R = signI zs.length ys.length) := by
    show _ = _
    rw [hI.out, cmpL_end _ _ (.inl (List.drop_eq_nil_of_le (by omega)))]
    simp only [List.length_drop, signI]
    have e2 : zs.length - m = 0 := by omega
    rw [e2]
    have e3 : (zs.length : Int) = m := by omega
    by_cases h : m < ys.length
    ·simp; omega
    ·simp; omega
   clear hI
   have h1' : ¬ ((m : Int) < zs.length) := by omega
   go_wp2_with (go_at_call 85; refine (sign_calls _ _ _).mono ?_; rintro e w' ⟨rfl, rfl⟩)
   go_ret
   exact ⟨by rw [hI3.out]; rfl, by repeat (first | exact Below.refl _ _ | refine below_drewN ?_ _ | apply Below.drew)⟩
end Go.Proofs.YtknbchheoloaoaaGreat

/- spec.l11Less; races in rows. -/
namespace Go.Proofs.YtknbchheoloaoaaGreat
set_option linter.unusedVariables false
open Go.ChangeShapes Go.WideShapes Go.ChangeAt Go.RowKit

structure RaceL where
 t : Int
 a : Int
 u : Int
 b : Int
deriving DecidableEq
def RaceL.z (r : RaceL) : List Int := [r.t, r.a, r.u, r.b]
def RaceL.v (r : RaceL) : List Value := [.int .i64 r.t, .int .i64 r.a, .int .i64 r.u, .int .i64 r.b]
def lessR (r q : RaceL) : Bool := decide (cmpL r.z q.z < 0)

set_option maxRecDepth 1000000 in
set_option maxHeartbeats 2000000 in
theorem less_calls (r q : RaceL) (w : World) : Calls Tryz.prog 45 #[.agg #[.int .i64 r.t, .int .i64 r.a, .int .i64 r.u, .int .i64 r.b], .agg #[.int .i64 q.t, .int .i64 q.a, .int .i64 q.u, .int .i64 q.b]] w fun e w' => e = .returned (.bool (lessR r q)) ∧ Below w.heap.size w w' := by
 obtain ⟨W0, hW0⟩ : ∃ W0 : World, W0 = (((w.alloc (.cells #[.int .i64 r.t, .int .i64 r.a, .int .i64 r.u, .int .i64 r.b] 89)).alloc (.cells #[.int .i64 q.t, .int .i64 q.a, .int .i64 q.u, .int .i64 q.b] 89)).alloc (.cells #[.int .i64 r.t, .int .i64 r.a, .int .i64 r.u, .int .i64 r.b] 2)).alloc (.cells #[.int .i64 q.t, .int .i64 q.a, .int .i64 q.u, .int .i64 q.b] 2) := ⟨_, rfl⟩
 have hb0 : Hid (Below w.heap.size w W0) := by show Below _ _ _; rw [hW0]; exact below_on (below_on (below_on (below_1 _ _) (below_1 _ _)) (below_1 _ _)) (below_1 _ _)
 have hu : W0.ownsRow 0 2 1 (.slice (some ⟨w.heap.size + 2, 0, none⟩) 4 4) r.z.length (intsV r.z) := by
  have := World.ownsRow_lit (base := 0) (size := 1) (e := 2) ((w.alloc (.cells #[.int .i64 r.t, .int .i64 r.a, .int .i64 r.u, .int .i64 r.b] 89)).alloc (.cells #[.int .i64 q.t, .int .i64 q.a, .int .i64 q.u, .int .i64 q.b] 89)) #[.int .i64 r.t, .int .i64 r.a, .int .i64 r.u, .int .i64 r.b] 4 (Nat.zero_le _) (by unfold maxLen; omega) rfl
  have h2 := this.alloc (.cells #[.int .i64 q.t, .int .i64 q.a, .int .i64 q.u, .int .i64 q.b] 2)
  rw [← hW0] at h2
  simpa [RaceL.z, intsV, Nat.add_assoc] using h2
 have hv : W0.ownsRow 0 2 1 (.slice (some ⟨w.heap.size + 3, 0, none⟩) 4 4) q.z.length (intsV q.z) := by
  have := World.ownsRow_lit (base := 0) (size := 1) (e := 2) (((w.alloc (.cells #[.int .i64 r.t, .int .i64 r.a, .int .i64 r.u, .int .i64 r.b] 89)).alloc (.cells #[.int .i64 q.t, .int .i64 q.a, .int .i64 q.u, .int .i64 q.b] 89)).alloc (.cells #[.int .i64 r.t, .int .i64 r.a, .int .i64 r.u, .int .i64 r.b] 2)) #[.int .i64 q.t, .int .i64 q.a, .int .i64 q.u, .int .i64 q.b] 4 (Nat.zero_le _) (by unfold maxLen; omega) rfl
  rw [← hW0] at this
  simpa [RaceL.z, intsV, Nat.add_assoc] using this
 have hc : Hid (Calls Tryz.prog 65 #[.slice (some ⟨w.heap.size + 2, 0, none⟩) 4 4, .slice (some ⟨w.heap.size + 3, 0, none⟩) 4 4] W0 fun e w' => e = .returned (.int .i64 (cmpL r.z q.z)) ∧ Below W0.heap.size W0 w') := compareRow_calls _ _ _ _ W0 hu hv (by simp [RaceL.z]) (by simp [RaceL.z])
 have hR : Hid (lessR r q = decide (cmpL r.z q.z < 0)) := rfl
 generalize lessR r q = R at hR ⊢
 generalize cmpL r.z q.z = z at hc hR
 clear hu hv
 go_enter Tryz.func45, Tryz.ntmps45
 go_wp2_with (go_at_call 65; rw [← hW0]; refine (show Calls _ _ _ _ _ from hc.out).mono ?_; rintro e w' ⟨rfl, hb⟩)
 go_ret
 exact ⟨by rw [hR.out]; rfl, below_on hb0.out hb⟩
end Go.Proofs.YtknbchheoloaoaaGreat
