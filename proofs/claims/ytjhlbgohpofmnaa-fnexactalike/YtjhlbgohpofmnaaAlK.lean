/- The program's pairing: what it holds in memory. -/
import Derived.Test.YtjhlbgohpofmnaaAlN
import Derived.Test.YtjhlbgohpofmnaaAlE
import Derived.Test.YtjhlbgohpofmnaaAlR
import Derived.Test.YtjhlbgohpofmnaaRg
namespace Go.Proofs.Ytjhlbgohpofmnaa
set_option linter.unusedVariables false
open Go.ChangeShapes Go.WideShapes Go.ChangeAt Go.RowKit Go.Maps

def btw (a lo hi : Int) : Bool := decide (lo ≤ a) && decide (a ≤ hi)
set_option maxRecDepth 100000 in
theorem between_calls (a lo hi : Int) (w : World) : Calls Try.prog 16 #[.int .i64 a, .int .i64 lo, .int .i64 hi] w fun e w' => e = .returned (.bool (btw a lo hi)) ∧ w' = w := by
  go_enter Try.func16, Try.ntmps16
  by_cases h1 : lo ≤ a
  · by_cases h2 : a ≤ hi
    · go_wp2
      go_ret
      exact ⟨by simp [btw, h1, h2], rfl⟩
    · have h3 : hi < a := by omega
      go_wp2
      go_ret
      exact ⟨by simp [btw, h1, h2], rfl⟩
  · have h3 : a < lo := by omega
    go_wp2
    go_ret
    exact ⟨by rw [btw, decide_eq_false (by omega : ¬ lo ≤ a)]; rfl, rfl⟩
theorem keyI : Keyed Try.prog 2 := int_keyed Try.underlying2
theorem zeroI (w : World) : (zeroValue 2).run Try.prog w = .ok (.int .i64 0) w := by kernel_rfl
theorem zeroU (w : World) : (zeroValue 55).run Try.prog w = .ok (.agg #[]) w := by kernel_rfl
theorem keyOfI {z : Int} (h : 0 ≤ z ∧ z ≤ 4000000) : keyOf Try.prog 2 (.int .i64 z) = some (.int .i64 z) := keyOf_int_mk Try.underlying2 (WalkArith.wf_i64 (by omega))

def PartMap (w : World) (M : Nat) (row : List (Int × Int)) : Prop := ∃ D : DataW Unit, w.ownsMap Try.prog 2 (plainElem Try.prog 2) M row.length D ∧ ∀ z : Int, Maps.has D (.int .i64 z) = decide (z ∈ fsts row) ∧ D.atKey (.int .i64 z) (.lit (.int .i64 0)) = .lit (.int .i64 (partner row z))
def TakeMap (w : World) (M : Nat) (row : List (Int × Int)) : Prop := ∃ D : DataW Unit, w.ownsMap Try.prog 2 (unitElem (H := Unit)) M row.length D ∧ ∀ z : Int, Maps.has D (.int .i64 z) = decide (z ∈ snds row)
theorem PartMap.kept {w w' : World} {M : Nat} {row : List (Int × Int)} {b : Option Nat} (h : PartMap w M row) (hg : w.grownBy w' b) (hne : some M ≠ b) : PartMap w' M row := by
  obtain ⟨D, h1, h2⟩ := h
  exact ⟨D, h1.kept hg hne, h2⟩
theorem TakeMap.kept {w w' : World} {M : Nat} {row : List (Int × Int)} {b : Option Nat} (h : TakeMap w M row) (hg : w.grownBy w' b) (hne : some M ≠ b) : TakeMap w' M row := by
  obtain ⟨D, h1, h2⟩ := h
  exact ⟨D, h1.kept hg hne, h2⟩
theorem PartMap.lt {w : World} {M : Nat} {row : List (Int × Int)} (h : PartMap w M row) : M < w.heap.size := by
  obtain ⟨D, h1, h2⟩ := h
  exact h1.lt
theorem TakeMap.lt {w : World} {M : Nat} {row : List (Int × Int)} (h : TakeMap w M row) : M < w.heap.size := by
  obtain ⟨D, h1, h2⟩ := h
  exact h1.lt
def rowV (row : List (Int × Int)) : List Value := row.flatMap fun e => [.int .i64 e.1, .int .i64 e.2]
theorem rowV_snoc (row : List (Int × Int)) (p q : Int) : rowV (row ++ [(p, q)]) = rowV row ++ [.int .i64 p, .int .i64 q] := by simp [rowV]
theorem rowV_get : ∀ (row : List (Int × Int)) (k : Nat) (p q : Int), row[k]? = some (p, q) → (rowV row)[k * 2]? = some (.int .i64 p) ∧ (rowV row)[k * 2 + 1]? = some (.int .i64 q)
  | [], k, p, q, h => by simp at h
  | e :: l, 0, p, q, h => by simp at h; subst h; simp [rowV]
  | e :: l, k + 1, p, q, h => by
    have := rowV_get l k p q (by simpa using h)
    have h1 : (k + 1) * 2 = k * 2 + 2 := by omega
    rw [h1]
    simpa [rowV] using this
theorem rowV_length (row : List (Int × Int)) : (rowV row).length = row.length * 2 := by
  induction row with
  | nil => rfl
  | cons e l ih => simp only [rowV, List.flatMap_cons, List.length_append, List.length_cons, List.length_nil] at ih ⊢; omega
/-- A pairing under way: its own variable (P: both lists, the two maps, the row of pairs). -/
structure PairW (w wr : World) (ua ub : Value) (P M1 M2 : Nat) (rv : Value) (row : List (Int × Int)) : Prop where
  hb : Below w.heap.size w wr
  p0 : wr.cell? ⟨P, 0, none⟩ = some ua
  p1 : wr.cell? ⟨P, 1, none⟩ = some ub
  p2 : wr.cell? ⟨P, 2, none⟩ = some (.map (some M1))
  p3 : wr.cell? ⟨P, 3, none⟩ = some (.map (some M2))
  p4 : wr.cell? ⟨P, 4, none⟩ = some rv
  pf : wr.frozen? ⟨P, 4, none⟩ = false
  own : wr.ownsRow w.heap.size 48 2 rv row.length (rowV row)
  part : PartMap wr M1 row
  take : TakeMap wr M2 row
  lo : w.heap.size ≤ P ∧ w.heap.size ≤ M1 ∧ w.heap.size ≤ M2
  hi : P < wr.heap.size
  ne : P ≠ M1 ∧ P ≠ M2 ∧ M1 ≠ M2
  ap : rv.ownBlock ≠ some P ∧ rv.ownBlock ≠ some M1 ∧ rv.ownBlock ≠ some M2
theorem PairW.alloc {w wr : World} {ua ub : Value} {P M1 M2 : Nat} {rv : Value} {row : List (Int × Int)} (h : PairW w wr ua ub P M1 M2 rv row) (o : Obj) : PairW w (wr.alloc o) ua ub P M1 M2 rv row := by
  have hg := World.grownBy_alloc wr o none
  have hblk := Below.heap_alloc wr o P h.hi
  refine ⟨h.hb.alloc h.hb.size o, hg.cell h.p0 (by simp), hg.cell h.p1 (by simp), hg.cell h.p2 (by simp), hg.cell h.p3 (by simp), hg.cell h.p4 (by simp), (World.frozen?_of_block (w := wr) hblk).trans h.pf, own_alloc h.own o, h.part.kept hg (by simp), h.take.kept hg (by simp), h.lo, ?_, h.ne, h.ap⟩
  simp only [World.size_alloc]
  have := h.hi
  omega
theorem PairW.drewN {w wr : World} {ua ub : Value} {P M1 M2 : Nat} {rv : Value} {row : List (Int × Int)} (h : PairW w wr ua ub P M1 M2 rv row) (n : Nat) : PairW w (wr.drewN n) ua ub P M1 M2 rv row :=
  ⟨⟨h.hb.os, h.hb.tape, h.hb.output, h.hb.size, h.hb.block⟩, h.p0, h.p1, h.p2, h.p3, h.p4, h.pf, h.own, h.part, h.take, h.lo, h.hi, h.ne, h.ap⟩
def MeetQ (w : World) (ua ub : Value) (P M1 M2 : Nat) (r : Option (List (Int × Int))) (e : Ending) (w' : World) : Prop := match r with
  | some row' => e = .returned (.bool true) ∧ ∃ rv', PairW w w' ua ub P M1 M2 rv' row'
  | none => e = .returned (.bool false) ∧ Below w.heap.size w w'

set_option maxRecDepth 1000000 in
set_option maxHeartbeats 4000000 in
theorem meet_all (p q : Int) (w wr : World) (a0 b0 : Option Addr) (A B ca cb P M1 M2 : Nat) (rv : Value) (row : List (Int × Int)) (hA : A ≤ 1048576) (hB : B ≤ 1048576) (hrow : row.length ≤ 1048576) (h : PairW w wr (.slice a0 A ca) (.slice b0 B cb) P M1 M2 rv row)
    (hfresh : 1 ≤ p → p ≤ (A : Int) → 1 ≤ q → q ≤ (B : Int) → p ∉ fsts row → q ∉ snds row → Calls Try.prog 11 #[.pointer (some ⟨P, 0, none⟩), .int .i64 p, .int .i64 q] wr fun e w' => MeetQ w (.slice a0 A ca) (.slice b0 B cb) P M1 M2 (some (row ++ [(p, q)])) e w') :
    Calls Try.prog 11 #[.pointer (some ⟨P, 0, none⟩), .int .i64 p, .int .i64 q] wr fun e w' => MeetQ w (.slice a0 A ca) (.slice b0 B cb) P M1 M2 (meetP A B row p q) e w' := by
  have hH : Hid (PairW w wr (.slice a0 A ca) (.slice b0 B cb) P M1 M2 rv row) := h
  have hA' : (A : Int) ≤ 1048576 := by omega
  have hB' : (B : Int) ≤ 1048576 := by omega
  have c0 := h.p0
  have c1 := h.p1
  have c2 := h.p2
  have c3 := h.p3
  by_cases ha : 0 ≤ p ∧ p ≤ (A : Int)
  · have hba : btw p 0 A = true := by simp [btw, ha.1, ha.2]
    by_cases hb : 0 ≤ q ∧ q ≤ (B : Int)
    · have hbb : btw q 0 B = true := by simp [btw, hb.1, hb.2]
      by_cases h0 : p = 0 ∨ q = 0
      · have hr : Hid (meetP A B row p q = if p = q then some row else none) := by
          show _ = _
          unfold meetP
          rw [if_pos ⟨ha.1, ha.2, hb.1, hb.2⟩, if_pos h0]
        have hfin : Hid (MeetQ w (.slice a0 A ca) (.slice b0 B cb) P M1 M2 (meetP A B row p q) (.returned (.bool (p == q))) wr) := by
          rw [hr.out]
          by_cases e : p = q
          · rw [if_pos e]; exact ⟨by simp [e], _, hH.out⟩
          · rw [if_neg e]; exact ⟨by simp [e], hH.out.hb⟩
        generalize meetP A B row p q = r at hr hfin ⊢
        clear h hr
        by_cases hpz : p = 0
        · subst hpz
          go_enter Try.func11, Try.ntmps11
          go_wp2_with (first
            | (go_at_call 16; refine (between_calls _ _ _ _).mono ?_; rintro e wz ⟨rfl, rfl⟩; first | rw [hba] | rw [hbb]))
          go_ret
          exact hfin.out
        · have hqz : q = 0 := by omega
          have hpz' : (p == 0) = false := by simpa using hpz
          subst hqz
          go_enter Try.func11, Try.ntmps11
          go_wp2_with (first
            | (go_at_call 16; refine (between_calls _ _ _ _).mono ?_; rintro e wz ⟨rfl, rfl⟩; first | rw [hba] | rw [hbb]))
          go_ret
          have h9 := hfin.out
          rw [hpz'] at h9
          exact h9
      · have hp0 : (p == 0) = false := by simp; omega
        have hq0 : (q == 0) = false := by simp; omega
        have hkp := keyOfI (z := p) (by omega)
        have hkq := keyOfI (z := q) (by omega)
        obtain ⟨D1, hD1, hD1h⟩ := h.part
        obtain ⟨D2, hD2, hD2h⟩ := h.take
        have hrow' : row.length < 1048577 := by omega
        clear h
        by_cases hin : p ∈ fsts row ∨ q ∈ snds row
        · have hr : Hid (meetP A B row p q = if partner row p = q then some row else none) := by
            show _ = _
            unfold meetP
            rw [if_pos ⟨ha.1, ha.2, hb.1, hb.2⟩, if_neg h0, if_pos hin]
          generalize meetP A B row p q = r at hr ⊢
          have hfin : Hid (∀ W, PairW w W (.slice a0 A ca) (.slice b0 B cb) P M1 M2 rv row → MeetQ w (.slice a0 A ca) (.slice b0 B cb) P M1 M2 r (.returned (.bool (partner row p == q))) W) := fun W hW => by
            rw [hr.out]
            by_cases e : partner row p = q
            · rw [if_pos e]; exact ⟨by simp [e], _, hW⟩
            · rw [if_neg e]; exact ⟨by simp [e], hW.hb⟩
          clear hr h0 hfresh
          by_cases hm : p ∈ fsts row
          · have hd1 : decide (p ∈ fsts row) = true := decide_eq_true hm
            clear hin
            go_enter Try.func11, Try.ntmps11
            go_wp2_with (first
              | (go_at_call 16; refine (between_calls _ _ _ _).mono ?_; rintro e wz ⟨rfl, rfl⟩; first | rw [hba] | rw [hbb])
              | (at_lookup; refine wpList_lookup_own_ok_int _ rfl _ _ 40 rfl 2 2 .i64 keyI Try.underlying40 Try.underlying2 (zeroI _) M1 row.length D1 rfl hD1 _ _ rfl hkp ?_; intro c hat hwc; rw [(hD1h p).1, hd1])
              | (at_lookup; refine wpList_lookup_own_unit _ rfl _ _ 41 rfl 2 55 keyI Try.underlying41 (zeroU _) M2 row.length D2 rfl hD2 _ _ rfl hkq ?_))
            have hc : c = partner row p := by
              have := (hD1h p).2
              rw [hat] at this
              injection this with this
              injection this
            subst hc
            go_ret
            exact hfin.out _ (hH.out.alloc _)
          · have hd1 : decide (p ∈ fsts row) = false := decide_eq_false hm
            have hd2 : decide (q ∈ snds row) = true := decide_eq_true (by rcases hin with z | z; exact absurd z hm; exact z)
            clear hin
            go_enter Try.func11, Try.ntmps11
            go_wp2_with (first
              | (go_at_call 16; refine (between_calls _ _ _ _).mono ?_; rintro e wz ⟨rfl, rfl⟩; first | rw [hba] | rw [hbb])
              | (at_lookup; refine wpList_lookup_own_ok_int _ rfl _ _ 40 rfl 2 2 .i64 keyI Try.underlying40 Try.underlying2 (zeroI _) M1 row.length D1 rfl hD1 _ _ rfl hkp ?_; intro c hat hwc; rw [(hD1h p).1, hd1])
              | (at_lookup; refine wpList_lookup_own_unit _ rfl _ _ 41 rfl 2 55 keyI Try.underlying41 (zeroU _) M2 row.length D2 rfl hD2 _ _ rfl hkq ?_; rw [hD2h q, hd2]))
            have hc : c = partner row p := by
              have := (hD1h p).2
              rw [hat] at this
              injection this with this
              injection this
            subst hc
            go_ret
            exact hfin.out _ (hH.out.alloc _)
        · have hr : meetP A B row p q = some (row ++ [(p, q)]) := by
            unfold meetP
            rw [if_pos ⟨ha.1, ha.2, hb.1, hb.2⟩, if_neg h0, if_neg hin]
          rw [hr]
          exact hfresh (by omega) ha.2 (by omega) hb.2 (fun z => hin (.inl z)) (fun z => hin (.inr z))
    · have hbb : btw q 0 B = false := by
        by_cases z : 0 ≤ q
        · simp [btw, z]; omega
        · simp [btw, z]
      have hr : Hid (meetP A B row p q = none) := by show _ = _; unfold meetP; rw [if_neg]; intro z; exact hb ⟨z.2.2.1, z.2.2.2⟩
      generalize meetP A B row p q = r at hr ⊢
      clear h hb
      go_enter Try.func11, Try.ntmps11
      go_wp2_with (first
        | (go_at_call 16; refine (between_calls _ _ _ _).mono ?_; rintro e wz ⟨rfl, rfl⟩; first | rw [hba] | rw [hbb]))
      go_ret
      rw [hr.out]
      exact ⟨rfl, hH.out.hb⟩
  · have hba : btw p 0 A = false := by
      by_cases z : 0 ≤ p
      · simp [btw, z]; omega
      · simp [btw, z]
    have hr : Hid (meetP A B row p q = none) := by show _ = _; unfold meetP; rw [if_neg]; intro z; exact ha ⟨z.1, z.2.1⟩
    generalize meetP A B row p q = r at hr ⊢
    clear h ha
    go_enter Try.func11, Try.ntmps11
    go_wp2_with (first
      | (go_at_call 16; refine (between_calls _ _ _ _).mono ?_; rintro e wz ⟨rfl, rfl⟩; rw [hba]))
    go_ret
    rw [hr.out]
    exact ⟨rfl, hH.out.hb⟩
end Go.Proofs.Ytjhlbgohpofmnaa
