/- Two values meet; two rows of values. -/
import Derived.Test.YtjhlbgohpofmnaaAlP
namespace Go.Proofs.Ytjhlbgohpofmnaa
set_option linter.unusedVariables false
open Go.ChangeShapes Go.WideShapes Go.ChangeAt Go.RowKit Go.Maps

theorem meet_calls (p q : Int) (w wr : World) (a0 b0 : Option Addr) (A B ca cb P M1 M2 : Nat) (rv : Value) (row : List (Int × Int)) (hA : A ≤ 1048576) (hB : B ≤ 1048576) (hrow : row.length ≤ 1048576) (h : PairW w wr (.slice a0 A ca) (.slice b0 B cb) P M1 M2 rv row) :
    Calls Try.prog 11 #[.pointer (some ⟨P, 0, none⟩), .int .i64 p, .int .i64 q] wr fun e w' => MeetQ w (.slice a0 A ca) (.slice b0 B cb) P M1 M2 (meetP A B row p q) e w' :=
  meet_all p q w wr a0 b0 A B ca cb P M1 M2 rv row hA hB hrow h (fun h1 h2 h3 h4 h5 h6 => meet_fresh p q w wr a0 b0 A B ca cb P M1 M2 rv row hA hB hrow h h1 h2 h3 h4 h5 h6)
theorem PairW.on {w wr W : World} {ua ub : Value} {P M1 M2 : Nat} {rv : Value} {row : List (Int × Int)} (h : PairW w wr ua ub P M1 M2 rv row) (hb : Below wr.heap.size wr W) : PairW w W ua ub P M1 M2 rv row := by
  have hg : wr.grownBy W none := ⟨hb.os, hb.tape, hb.output, hb.size, fun k hk _ => hb.block k hk⟩
  refine ⟨h.hb.grown hg h.hb.size (fun k e => by cases e), hg.cell h.p0 (by simp), hg.cell h.p1 (by simp), hg.cell h.p2 (by simp), hg.cell h.p3 (by simp), hg.cell h.p4 (by simp), (hb.frozen (p := ⟨P, 4, none⟩) h.hi).trans h.pf, own_kept h.own (fun g e => hb.block _ (own_lt h.own e).2), h.part.kept hg (by simp), h.take.kept hg (by simp), h.lo, ?_, h.ne, h.ap⟩
  have := h.hi
  have := hb.size
  omega

set_option maxRecDepth 1000000 in
set_option maxHeartbeats 4000000 in
theorem sameValues_calls (v u : ValL) (w wr : World) (a0 b0 : Option Addr) (A B ca cb P M1 M2 : Nat) (rv : Value) (row : List (Int × Int)) (hA : A ≤ 1048576) (hB : B ≤ 1048576) (hrow : row.length ≤ 1048576) (h : PairW w wr (.slice a0 A ca) (.slice b0 B cb) P M1 M2 rv row) :
    Calls Try.prog 18 #[.pointer (some ⟨P, 0, none⟩), .agg #[.int .i64 v.kind, .int .i64 v.n], .agg #[.int .i64 u.kind, .int .i64 u.n]] wr fun e w' => MeetQ w (.slice a0 A ca) (.slice b0 B cb) P M1 M2 (stepV A B row (v, u)) e w' := by
  obtain ⟨k1, n1⟩ := v
  obtain ⟨k2, n2⟩ := u
  have hH : Hid (PairW w wr (.slice a0 A ca) (.slice b0 B cb) P M1 M2 rv row) := h
  clear h
  by_cases h1 : k1 = 4
  · subst h1
    by_cases h2 : k2 = 4
    · subst h2
      have hr : stepV A B row (⟨4, n1⟩, ⟨4, n2⟩) = meetP A B row n1 n2 := by unfold stepV; rw [if_pos ⟨rfl, rfl⟩]
      rw [hr]
      have hm : Hid (∀ o1 o2, Calls Try.prog 11 #[.pointer (some ⟨P, 0, none⟩), .int .i64 n1, .int .i64 n2] ((wr.alloc o1).alloc o2) fun e w' => MeetQ w (.slice a0 A ca) (.slice b0 B cb) P M1 M2 (meetP A B row n1 n2) e w') := fun o1 o2 => meet_calls n1 n2 w _ a0 b0 A B ca cb P M1 M2 rv row hA hB hrow ((hH.out.alloc _).alloc _)
      generalize meetP A B row n1 n2 = r at hm ⊢
      go_enter Try.func18, Try.ntmps18
      go_wp2_with fail
      refine (hm.out _ _).mono ?_
      intro e w1 hq
      have hq2 : ∃ bb, e = .returned (.bool bb) := by
        cases r with
        | none => exact ⟨_, hq.1⟩
        | some r => exact ⟨_, hq.1⟩
      obtain ⟨bb, rfl⟩ := hq2
      have hqH : Hid (MeetQ w (.slice a0 A ca) (.slice b0 B cb) P M1 M2 r (.returned (.bool bb)) w1) := hq
      clear hq
      go_wp2
      go_ret
      exact hqH.out
    · have hk2 : (k2 == 4) = false := by simpa using h2
      have hr : stepV A B row (⟨4, n1⟩, ⟨k2, n2⟩) = none := by
        unfold stepV
        rw [if_neg (fun q => h2 q.2), if_neg (fun q => h2 q.1.symm)]
      rw [hr]
      have hk3 : ((4 : Int) == k2) = false := by simp; exact fun q => h2 q.symm
      have hfin : Hid (∀ W, Below wr.heap.size wr W → Below w.heap.size w W) := fun W hb => (hH.out.on hb).hb
      clear hr
      go_enter Try.func18, Try.ntmps18
      go_wp2_with fail
      go_ret
      exact ⟨rfl, ((hH.out.alloc _).alloc _).hb⟩
  · have hk1 : (k1 == 4) = false := by simpa using h1
    by_cases h3 : k1 = k2
    · subst h3
      by_cases h4 : n1 = n2
      · subst h4
        have hr : stepV A B row (⟨k1, n1⟩, ⟨k1, n1⟩) = some row := by
          unfold stepV
          rw [if_neg (fun q => h1 q.1), if_pos ⟨rfl, rfl⟩]
        rw [hr]
        clear hr
        go_enter Try.func18, Try.ntmps18
        go_wp2_with fail
        go_ret
        exact ⟨by simp, _, (hH.out.alloc _).alloc _⟩
      · have hr : stepV A B row (⟨k1, n1⟩, ⟨k1, n2⟩) = none := by
          unfold stepV
          rw [if_neg (fun q => h1 q.1), if_neg (fun q => h4 q.2)]
        rw [hr]
        have h5 : (n1 == n2) = false := by simpa using h4
        clear hr
        go_enter Try.func18, Try.ntmps18
        go_wp2_with fail
        go_ret
        exact ⟨by simp, ((hH.out.alloc _).alloc _).hb⟩
    · have hr : stepV A B row (⟨k1, n1⟩, ⟨k2, n2⟩) = none := by
        unfold stepV
        rw [if_neg (fun q => h1 q.1), if_neg (fun q => h3 q.1)]
      rw [hr]
      have h5 : (k1 == k2) = false := by simpa using h3
      clear hr
      go_enter Try.func18, Try.ntmps18
      go_wp2_with fail
      go_ret
      exact ⟨by simp, ((hH.out.alloc _).alloc _).hb⟩

theorem valsP_none (A B : Nat) : ∀ (l m : List (ValL × ValL)) (row : List (Int × Int)), valsP A B row l = none → valsP A B row (l ++ m) = none
  | [], m, row, h => by simp [valsP] at h
  | e :: l, m, row, h => by
    simp only [List.cons_append, valsP] at h ⊢
    cases hs : stepV A B row e with
    | none => rfl
    | some r => rw [hs] at h; exact valsP_none A B l m r h
/-- Where a row of values lies. -/
def ValsAt (B : Nat) (w : World) (ga : Option Addr) (vs : List ValL) : Prop := ∀ W, Below B w W → ∀ j (hj : j < vs.length), ∃ g o, ga = some ⟨g, o, none⟩ ∧ W.cell? ⟨g, o + j * 2, none⟩ = some (.int .i64 vs[j].kind) ∧ W.cell? ⟨g, o + j * 2 + 1, none⟩ = some (.int .i64 vs[j].n)
def ValsQ (w : World) (ua ub : Value) (P M1 M2 A B : Nat) (row : List (Int × Int)) (vs us : List ValL) (e : Ending) (w' : World) : Prop := if vs.length = us.length then MeetQ w ua ub P M1 M2 (valsP A B row (vs.zip us)) e w' else e = .returned (.bool false) ∧ Below w.heap.size w w'

set_option maxRecDepth 1000000 in
set_option maxHeartbeats 4000000 in
theorem equalFunc_calls (w wr : World) (a0 b0 : Option Addr) (A B ca cb P M1 M2 : Nat) (rv : Value) (row : List (Int × Int)) (vs us : List ValL) (ga gb : Option Addr) (nv nu cv cu : Nat) (hnv : Hid (nv = vs.length)) (hnu : Hid (nu = us.length)) (hvl : nv ≤ 1048576) (hul : nu ≤ 1048576) (hA : A ≤ 1048576) (hB : B ≤ 1048576)
    (hlen : Hid (∀ k row', valsP A B row ((vs.zip us).take k) = some row' → row'.length ≤ 1048576)) (hva : Hid (ValsAt w.heap.size w ga vs)) (hvb : Hid (ValsAt w.heap.size w gb us)) (h : PairW w wr (.slice a0 A ca) (.slice b0 B cb) P M1 M2 rv row) :
    Calls Try.prog 17 #[.slice ga nv cv, .slice gb nu cu, .func (.func 18) #[.pointer (some ⟨P, 0, none⟩)] #[]] wr fun e w' => ValsQ w (.slice a0 A ca) (.slice b0 B cb) P M1 M2 A B row vs us e w' := by
  have hH : Hid (PairW w wr (.slice a0 A ca) (.slice b0 B cb) P M1 M2 rv row) := h
  clear h
  have hv' : (nv : Int) ≤ 1048576 := by omega
  have hu' : (nu : Int) ≤ 1048576 := by omega
  by_cases he : nv = nu
  · have hq : ∀ e w', ValsQ w (.slice a0 A ca) (.slice b0 B cb) P M1 M2 A B row vs us e w' = MeetQ w (.slice a0 A ca) (.slice b0 B cb) P M1 M2 (valsP A B row (vs.zip us)) e w' := fun e w' => by
      unfold ValsQ; rw [if_pos (by rw [← hnv.out, ← hnu.out]; exact he)]
    simp only [hq]
    clear hq
    subst he
    go_enter Try.func17, Try.ntmps17
    go_wp2_with fail
    rename World => wo
    rename_i wr0
    go_loopw [17] (fun iv wr => ∃ (i : Nat) (rv : Value) (row' : List (Int × Int)), i ≤ nv ∧ iv = .int .i64 i ∧ Hid (valsP A B row ((vs.zip us).take i) = some row') ∧ Hid (PairW w wr (.slice a0 A ca) (.slice b0 B cb) P M1 M2 rv row')) (fun iv _ => nv - (intOf iv).toNat)
    case atStart => exact ⟨0, _, row, Nat.zero_le _, rfl, by show _ = _; simp [valsP], hH⟩
    case round =>
      obtain ⟨i, rv', row', hi', rfl, hvp, hM⟩ := hrel
      by_cases hlt : i < nv
      · have hlt' : (i : Int) < nv := by omega
        have hi0 : (0 : Int) ≤ i := by omega
        have hiv : i < vs.length := by rw [← hnv.out]; exact hlt
        have hiu : i < us.length := by rw [← hnu.out]; exact hlt
        have hiz : i < (vs.zip us).length := by rw [List.length_zip]; omega
        obtain ⟨g1, o1, rfl, hk1, hn1⟩ := hva.out wr hM.out.hb i hiv
        have hB1 : ∀ o, Below w.heap.size w (wr.alloc o) := fun o => hM.out.hb.alloc hM.out.hb.size o
        obtain ⟨g2, o2, rfl, _, _⟩ := hvb.out wr hM.out.hb i hiu
        have hcu : ∀ o, (wr.alloc o).cell? ⟨g2, o2 + i * 2, none⟩ = some (.int .i64 us[i].kind) ∧ (wr.alloc o).cell? ⟨g2, o2 + i * 2 + 1, none⟩ = some (.int .i64 us[i].n) := fun o => by
          obtain ⟨g', o', e, h1, h2⟩ := hvb.out (wr.alloc o) (hB1 o) i hiu
          injection e with e
          injection e with e1 e2
          subst e1 e2
          exact ⟨h1, h2⟩
        have hcu1 := hcu (.cells #[.int .i64 vs[i].kind, .int .i64 vs[i].n] 38)
        obtain ⟨hk2, hn2⟩ := hcu1
        have hsn : Hid (valsP A B row ((vs.zip us).take (i + 1)) = stepV A B row' (vs[i], us[i])) := by
          show _ = _
          rw [List.take_succ_eq_append_getElem hiz, valsP_snoc, hvp.out]
          simp
        have hcall : Hid (∀ x1 x2, Calls Try.prog 18 #[.pointer (some ⟨P, 0, none⟩), .agg #[.int .i64 vs[i].kind, .int .i64 vs[i].n], .agg #[.int .i64 us[i].kind, .int .i64 us[i].n]] ((wr.alloc x1).alloc x2) fun e w' => MeetQ w (.slice a0 A ca) (.slice b0 B cb) P M1 M2 (stepV A B row' (vs[i], us[i])) e w') :=
          fun x1 x2 => sameValues_calls vs[i] us[i] w _ a0 b0 A B ca cb P M1 M2 rv' row' hA hB (hlen.out i row' hvp.out) ((hM.out.alloc _).alloc _)
        have hnone : Hid (stepV A B row' (vs[i], us[i]) = none → valsP A B row (vs.zip us) = none) := fun hn => by
          have h9 : valsP A B row ((vs.zip us).take (i + 1)) = none := by rw [hsn.out, hn]
          rw [← List.take_append_drop (i + 1) (vs.zip us)]
          exact valsP_none A B _ _ row h9
        generalize vs[i].kind = kv at *
        generalize vs[i].n = zv at *
        generalize us[i].kind = ku at *
        generalize us[i].n = zu at *
        generalize stepV A B row' (vs[i], us[i]) = r at *
        clear hcu hB1 hvp
        go_wp2_with fail
        refine (hcall.out _ _).mono ?_
        intro e w1 hq
        cases r with
        | none =>
          obtain ⟨rfl, hb1⟩ := hq
          have hfin : Hid (MeetQ w (.slice a0 A ca) (.slice b0 B cb) P M1 M2 (valsP A B row (vs.zip us)) (.returned (.bool false)) w1) := by
            rw [hnone.out rfl]; exact ⟨rfl, hb1⟩
          clear hb1 hcall hnone hsn hM
          go_wp2
          go_ret
          exact hfin.out
        | some r1 =>
          obtain ⟨rfl, rv1, hP1⟩ := hq
          have hP1H : Hid (PairW w w1 (.slice a0 A ca) (.slice b0 B cb) P M1 M2 rv1 r1) := hP1
          clear hP1 hcall hnone hM
          go_wp2
          go_roundw
          case rel => exact ⟨i + 1, rv1, r1, by omega, by go_num, hsn, hP1H⟩
          case measure => simp [intOf]; omega
      · have hie : i = nv := by omega
        have hz : Hid (valsP A B row (vs.zip us) = some row') := by
          have := hvp.out
          rw [List.take_of_length_le (by rw [List.length_zip, ← hnv.out, ← hnu.out]; omega)] at this
          exact this
        have hMf : Hid (PairW w wr (.slice a0 A ca) (.slice b0 B cb) P M1 M2 rv' row') := hM
        have hfin : Hid (MeetQ w (.slice a0 A ca) (.slice b0 B cb) P M1 M2 (valsP A B row (vs.zip us)) (.returned (.bool true)) wr) := by
          rw [hz.out]; exact ⟨rfl, _, hMf.out⟩
        clear hz hvp
        go_wp2
        go_ret
        exact hfin.out
  · have hq : ∀ e w', ValsQ w (.slice a0 A ca) (.slice b0 B cb) P M1 M2 A B row vs us e w' = (e = .returned (.bool false) ∧ Below w.heap.size w w') := fun e w' => by
      unfold ValsQ; rw [if_neg (by rw [← hnv.out, ← hnu.out]; exact he)]
    simp only [hq]
    have he' : ((nv : Int) == nu) = false := by simp; omega
    clear hq
    go_enter Try.func17, Try.ntmps17
    go_wp2_with fail
    go_ret
    exact ⟨rfl, hH.out.hb⟩
end Go.Proofs.Ytjhlbgohpofmnaa
