/- laws.mark.. over lists: methods and classes. -/
import Derived.Test.YtnoffenkmcmpfaaDoorBtI
namespace Go.Proofs.YtnoffenkmcmpfaaDoor
set_option linter.unusedVariables false
open Go.ChangeShapes Go.WideShapes Go.ChangeAt Go.RowKit

def cntM (x : MethL) : Nat := 5 + totL (fun _ => 8) x.code
def markM (k : Nat) (x : MethL) : MethL := ⟨markS k, markS (k + 1), (k : Int) + 1 + 1, (k : Int) + 1 + 1 + 1, (k : Int) + 1 + 1 + 1 + 1, markL markIn (fun _ => 8) (k + 5) x.code⟩
def cntC (x : ClassL) : Nat := 3 + totL (fun _ => 3) x.fields + totL cntM x.meths
def markC (k : Nat) (x : ClassL) : ClassL := ⟨markS k, markS (k + 1), (k : Int) + 1 + 1, markL markFl (fun _ => 3) (k + 3) x.fields, markL markM cntM (k + 3 + totL (fun _ => 3) x.fields) x.meths⟩
theorem markInsZ_calls (z : Int) (v : Value) (xs : List InsL) (w : World) (F : List Nat) (B k : Nat) (hz : z = k) (hl : ListF InsF 9 29 w v xs F) (hnd : F.Nodup) (hB : ∀ b ∈ F, B ≤ b) (hn : xs.length ≤ 1048576) (hk1 : 1 ≤ k) (hk2 : k + totL (fun _ => 8) xs ≤ 4194000) :
    Calls Tryd.prog 35 #[v, .int .i64 z] w (MarkQ InsF 9 29 markIn (fun _ => 8) B k xs F v w) := by
  subst hz
  exact markInsS_calls v xs w F B k hl hnd hB hn hk1 hk2
theorem markFieldZ_calls (z : Int) (v : Value) (xs : List FieldL) (w : World) (F : List Nat) (B k : Nat) (hz : z = k) (hl : ListF FieldF 3 46 w v xs F) (hnd : F.Nodup) (hB : ∀ b ∈ F, B ≤ b) (hn : xs.length ≤ 1048576) (hk1 : 1 ≤ k) (hk2 : k + totL (fun _ => 3) xs ≤ 4194000) :
    Calls Tryd.prog 23 #[v, .int .i64 z] w (MarkQ FieldF 3 46 markFl (fun _ => 3) B k xs F v w) := by
  subst hz
  exact markFieldS_calls v xs w F B k hl hnd hB hn hk1 hk2

set_option maxRecDepth 1000000 in
set_option maxHeartbeats 8000000 in
theorem markMethS_calls (v : Value) (xs : List MethL) (w : World) (F : List Nat) (B k : Nat) (hl : ListF MethF 9 36 w v xs F) (hnd : F.Nodup) (hB : ∀ b ∈ F, B ≤ b) (hn : xs.length ≤ 1048576) (hs : ∀ y ∈ xs, y.code.length ≤ 1048576) (hk1 : 1 ≤ k) (hk2 : k + totL cntM xs ≤ 4194000) :
    Calls Tryd.prog 24 #[v, .int .i64 k] w (MarkQ MethF 9 36 markM cntM B k xs F v w) := by
  obtain ⟨a, c, rfl⟩ := hl.form
  have hlH : Hid (ListF MethF 9 36 w (.slice a xs.length c) xs F) := hl
  have hF : Hid (F.Nodup ∧ ∀ b ∈ F, B ≤ b) := ⟨hnd, hB⟩
  have hsH : Hid (∀ y ∈ xs, y.code.length ≤ 1048576) := hs
  clear hl hnd hB hs
  go_enter Tryd.func24, Tryd.ntmps24
  go_wp2
  go_loopw [1, 5] (fun kv iv wr => ∃ i : Nat, kv = .int .i64 ((k + totL cntM (xs.take i) : Nat) : Int) ∧ iv = .int .i64 i ∧ i ≤ xs.length ∧ Hid (Below B w wr) ∧ Hid (ListF MethF 9 36 wr (.slice a xs.length c) (preL markM cntM k xs i) F) ∧ Hid (∀ c, c < w.heap.size → c ∉ F → wr.heap[c]? = w.heap[c]?)) (fun _ iv _ => xs.length - (intOf iv).toNat)
  case atStart => exact ⟨0, by simp [totL], rfl, Nat.zero_le _, Below.refl _ _, by show ListF _ _ _ _ _ _ _; rw [preL_zero]; exact hlH.out, fun _ _ _ => rfl⟩
  case round =>
    obtain ⟨i, rfl, rfl, hi, hbw, hls, hot⟩ := hrel
    by_cases hin : i < xs.length
    · have hin1 : (i : Int) < xs.length := by omega
      have hle := totL_le cntM xs (i + 1)
      rw [totL_succ _ _ _ hin] at hle
      obtain ⟨b, G, row, ⟨c', hv⟩, hrl, hrx, hbF, hbG, hGn, hGF, hS0, hfin⟩ := hls.out.step MethF.good hF.out.1 (j := i) (by rw [preL_length]; exact hin) (W := wr) (B := B) (b := 0) (G := []) (row := []) (y := xs[i])
      injection hv with hv1 hv2 hv3
      subst hv1
      clear hv2 hv3
      rw [preL_at _ _ _ _ _ hin] at hrx
      have hBb : B ≤ b := hF.out.2 b hbF
      obtain ⟨q, hq⟩ : ∃ q : Nat, k + totL cntM (xs.take i) = q := ⟨_, rfl⟩
      have hst := preL_step markM cntM k xs i hin
      rw [hq] at hst ⊢
      have hq1 : 1 ≤ q := by omega
      have hq2 : Hid (q + cntM xs[i] ≤ 4194000) := by show _ ≤ _; omega
      have hq3 : q ≤ 4194000 := by omega
      have hsucc : Hid (k + totL cntM (xs.take (i + 1)) = q + cntM xs[i]) := by show _ = _; rw [totL_succ _ _ _ hin]; omega
      have hstH : Hid ((preL markM cntM k xs i).set i (markM q xs[i]) = preL markM cntM k xs (i + 1)) := hst
      have hfinH : Hid (∀ W row1 y, RowSt B b (i * 9) 9 G wr W row1 → MethF W row1 y G → ListF MethF 9 36 W (.slice (some ⟨b, 0, none⟩) xs.length c) ((preL markM cntM k xs i).set i y) F) := fun W row1 y h1 h2 => by have := hfin W row1 y h1 h2; exact this
      have hGlt : Hid (∀ d ∈ G, d < wr.heap.size) := MethF.good.lt hrx
      have hGH : Hid (b ∉ G ∧ G.Nodup ∧ ∀ d ∈ G, d ∈ F) := ⟨hbG, hGn, hGF⟩
      have hxs := hsH.out xs[i] (List.getElem_mem hin)
      have hxsH : Hid (_ ∧ True) := ⟨hxs, trivial⟩
      clear hxs
      obtain ⟨cv, rfl, hcode⟩ := hrx
      obtain ⟨a1, k1, rfl⟩ := hcode.form
      have hcH : Hid (ListF InsF 9 29 wr (.slice a1 xs[i].code.length k1) xs[i].code G) := hcode
      clear hcode
      have S0 : Hid (RowSt B b (i * 9) 9 [] wr wr [.string xs[i].name, .string xs[i].sig, .int .i64 xs[i].flags, .int .i64 xs[i].stack, .int .i64 xs[i].locals, .slice a1 xs[i].code.length k1, .slice none 0 0, .slice none 0 0, .slice none 0 0]) := hS0
      have hbH : Hid (B ≤ b ∧ b ∈ F) := ⟨hBb, hbF⟩
      clear hst hfin hS0 hBb hrl hbG hGF hGn hle hq hbF
      go_wp2_with (first
        | (go_at_call 21; refine (markZ_calls _ (q + 0) (by omega) _ (by omega) (by omega)).mono ?_; rintro e x1 ⟨rfl, hb1⟩
           have T1 : Hid (RowSt B b (i * 9) 9 [] wr x1 [.string xs[i].name, .string xs[i].sig, .int .i64 xs[i].flags, .int .i64 xs[i].stack, .int .i64 xs[i].locals, .slice a1 xs[i].code.length k1, .slice none 0 0, .slice none 0 0, .slice none 0 0]) := RowSt.call S0.out hbH.out.1 hb1
           have y0 : x1.cell? ⟨b, i * 9, none⟩ = some (.string xs[i].name) := by simpa using T1.out.cell 0 _ rfl
           have z0 : x1.frozen? ⟨b, i * 9, none⟩ = false := T1.out.frozen _
           clear hb1)
        | (go_at_call 21; refine (markZ_calls _ (q + 1) (by omega) _ (by omega) (by omega)).mono ?_; rintro e x2 ⟨rfl, hb2⟩
           have T2 : Hid (RowSt B b (i * 9) 9 [] wr x2 [.string (markS (q + 0)), .string xs[i].sig, .int .i64 xs[i].flags, .int .i64 xs[i].stack, .int .i64 xs[i].locals, .slice a1 xs[i].code.length k1, .slice none 0 0, .slice none 0 0, .slice none 0 0]) := RowSt.call (RowSt.set T1.out hbH.out.1 0 (by decide) (.string (markS (q + 0)))) hbH.out.1 hb2
           have y1 : x2.cell? ⟨b, i * 9 + 1, none⟩ = some (.string xs[i].sig) := by simpa using T2.out.cell 1 _ rfl
           have z1 : x2.frozen? ⟨b, i * 9 + 1, none⟩ = false := T2.out.frozen _
           have y2 : x2.cell? ⟨b, i * 9 + 2, none⟩ = some (.int .i64 xs[i].flags) := by simpa using T2.out.cell 2 _ rfl
           have z2 : x2.frozen? ⟨b, i * 9 + 2, none⟩ = false := T2.out.frozen _
           have y3 : x2.cell? ⟨b, i * 9 + 3, none⟩ = some (.int .i64 xs[i].stack) := by simpa using T2.out.cell 3 _ rfl
           have z3 : x2.frozen? ⟨b, i * 9 + 3, none⟩ = false := T2.out.frozen _
           have y4 : x2.cell? ⟨b, i * 9 + 4, none⟩ = some (.int .i64 xs[i].locals) := by simpa using T2.out.cell 4 _ rfl
           have z4 : x2.frozen? ⟨b, i * 9 + 4, none⟩ = false := T2.out.frozen _
           have y5 : x2.cell? ⟨b, i * 9 + 5, none⟩ = some (.slice a1 xs[i].code.length k1) := by simpa using T2.out.cell 5 _ rfl
           have z5 : x2.frozen? ⟨b, i * 9 + 5, none⟩ = false := T2.out.frozen _
           clear hb2)
        | (go_at_call 35; have hE5 := (RowSt.set (RowSt.set (RowSt.set (RowSt.set T2.out hbH.out.1 1 (by decide) (.string (markS (q + 1)))) hbH.out.1 2 (by decide) (.int .i64 ((q : Int) + 1 + 1))) hbH.out.1 3 (by decide) (.int .i64 ((q : Int) + 1 + 1 + 1))) hbH.out.1 4 (by decide) (.int .i64 ((q : Int) + 1 + 1 + 1 + 1))); refine (markInsZ_calls _ _ xs[i].code _ G B (q + 5) (by omega) (hcH.out.kept InsF.good (fun d hd => hE5.out d (hGlt.out d hd) (fun e => hGH.out.1 (e ▸ hd)) (by simp))) hGH.out.2.1 (fun d hd => hF.out.2 d (hGH.out.2.2 d hd)) hxsH.out.1 (by omega) (by have := hq2.out; unfold cntM at this; omega)).mono ?_; rintro e x3 ⟨rfl, m1, m2, m3⟩
           have T3 : Hid (RowSt B b (i * 9) 9 G wr x3 [.string (markS (q + 0)), .string (markS (q + 1)), .int .i64 ((q : Int) + 1 + 1), .int .i64 ((q : Int) + 1 + 1 + 1), .int .i64 ((q : Int) + 1 + 1 + 1 + 1), .slice a1 xs[i].code.length k1, .slice none 0 0, .slice none 0 0, .slice none 0 0]) := RowSt.nest hE5 m1 m3 hGH.out.1
           have M2 : Hid (ListF InsF 9 29 x3 (.slice a1 xs[i].code.length k1) (markL markIn (fun _ => 8) (q + 5) xs[i].code) G) := m2
           have y6 : x3.cell? ⟨b, i * 9 + 6, none⟩ = some (.slice none 0 0) := by simpa using T3.out.cell 6 _ rfl
           have z6 : x3.frozen? ⟨b, i * 9 + 6, none⟩ = false := T3.out.frozen _
           have y7 : x3.cell? ⟨b, i * 9 + 7, none⟩ = some (.slice none 0 0) := by simpa using T3.out.cell 7 _ rfl
           have z7 : x3.frozen? ⟨b, i * 9 + 7, none⟩ = false := T3.out.frozen _
           have y8 : x3.cell? ⟨b, i * 9 + 8, none⟩ = some (.slice none 0 0) := by simpa using T3.out.cell 8 _ rfl
           have z8 : x3.frozen? ⟨b, i * 9 + 8, none⟩ = false := T3.out.frozen _
           clear m1 m2 m3 hE5)
        | (go_at_call 36; refine (markHands_none _ _ _ _).mono ?_; rintro e wz ⟨rfl, rfl⟩)
        | (go_at_call 37; refine (markFrames_none _ _ _ _).mono ?_; rintro e wz ⟨rfl, rfl⟩)
        | (go_at_call 38; refine (markLines_none _ _ _ _).mono ?_; rintro e wz ⟨rfl, rfl⟩))
      go_roundw
      case rel =>
        have hE := T3.out
        refine ⟨i + 1, by simp only [Value.int.injEq, true_and]; have h := hsucc.out; simp only [cntM] at h ⊢; omega, by simp, by omega, hbw.out.trans hE.hb, ?_, fun c hc hcF => ?_⟩
        · show ListF _ _ _ _ _ _ _
          rw [← hstH.out]
          exact hfinH.out _ _ _ hE ⟨_, rfl, M2.out⟩
        · rw [hE.out c (Nat.lt_of_lt_of_le hc hbw.out.size) (fun e => hcF (e ▸ hbH.out.2)) (fun h => hcF (hGH.out.2.2 c h))]
          exact hot.out c hc hcF
      case measure => first | (simp [intOf]; done) | (simp [intOf]; omega)
    · have hin1 : ¬ (i : Int) < xs.length := by omega
      obtain rfl : i = xs.length := by omega
      go_wp2
      go_ret
      refine ⟨by simp, hbw.out, ?_, hot.out⟩
      have := hls.out
      rwa [preL_end] at this

set_option maxRecDepth 1000000 in
set_option maxHeartbeats 8000000 in
theorem markClassS_calls (v : Value) (xs : List ClassL) (w : World) (F : List Nat) (B k : Nat) (hl : ListF ClassF 7 42 w v xs F) (hnd : F.Nodup) (hB : ∀ b ∈ F, B ≤ b) (hn : xs.length ≤ 1048576) (hs : ∀ y ∈ xs, y.fields.length ≤ 1048576 ∧ y.meths.length ≤ 1048576 ∧ ∀ m ∈ y.meths, m.code.length ≤ 1048576) (hk1 : 1 ≤ k) (hk2 : k + totL cntC xs ≤ 4194000) :
    Calls Tryd.prog 7 #[v, .int .i64 k] w (MarkQ ClassF 7 42 markC cntC B k xs F v w) := by
  obtain ⟨a, c, rfl⟩ := hl.form
  have hlH : Hid (ListF ClassF 7 42 w (.slice a xs.length c) xs F) := hl
  have hF : Hid (F.Nodup ∧ ∀ b ∈ F, B ≤ b) := ⟨hnd, hB⟩
  have hsH : Hid (∀ y ∈ xs, y.fields.length ≤ 1048576 ∧ y.meths.length ≤ 1048576 ∧ ∀ m ∈ y.meths, m.code.length ≤ 1048576) := hs
  clear hl hnd hB hs
  go_enter Tryd.func7, Tryd.ntmps7
  go_wp2
  go_loopw [1, 5] (fun kv iv wr => ∃ i : Nat, kv = .int .i64 ((k + totL cntC (xs.take i) : Nat) : Int) ∧ iv = .int .i64 i ∧ i ≤ xs.length ∧ Hid (Below B w wr) ∧ Hid (ListF ClassF 7 42 wr (.slice a xs.length c) (preL markC cntC k xs i) F) ∧ Hid (∀ c, c < w.heap.size → c ∉ F → wr.heap[c]? = w.heap[c]?)) (fun _ iv _ => xs.length - (intOf iv).toNat)
  case atStart => exact ⟨0, by simp [totL], rfl, Nat.zero_le _, Below.refl _ _, by show ListF _ _ _ _ _ _ _; rw [preL_zero]; exact hlH.out, fun _ _ _ => rfl⟩
  case round =>
    obtain ⟨i, rfl, rfl, hi, hbw, hls, hot⟩ := hrel
    by_cases hin : i < xs.length
    · have hin1 : (i : Int) < xs.length := by omega
      have hle := totL_le cntC xs (i + 1)
      rw [totL_succ _ _ _ hin] at hle
      obtain ⟨b, G, row, ⟨c', hv⟩, hrl, hrx, hbF, hbG, hGn, hGF, hS0, hfin⟩ := hls.out.step ClassF.good hF.out.1 (j := i) (by rw [preL_length]; exact hin) (W := wr) (B := B) (b := 0) (G := []) (row := []) (y := xs[i])
      injection hv with hv1 hv2 hv3
      subst hv1
      clear hv2 hv3
      rw [preL_at _ _ _ _ _ hin] at hrx
      have hBb : B ≤ b := hF.out.2 b hbF
      obtain ⟨q, hq⟩ : ∃ q : Nat, k + totL cntC (xs.take i) = q := ⟨_, rfl⟩
      have hst := preL_step markC cntC k xs i hin
      rw [hq] at hst ⊢
      have hq1 : 1 ≤ q := by omega
      have hq2 : Hid (q + cntC xs[i] ≤ 4194000) := by show _ ≤ _; omega
      have hq3 : q ≤ 4194000 := by omega
      have hsucc : Hid (k + totL cntC (xs.take (i + 1)) = q + cntC xs[i]) := by show _ = _; rw [totL_succ _ _ _ hin]; omega
      have hstH : Hid ((preL markC cntC k xs i).set i (markC q xs[i]) = preL markC cntC k xs (i + 1)) := hst
      have hfinH : Hid (∀ W row1 y, RowSt B b (i * 7) 7 G wr W row1 → ClassF W row1 y G → ListF ClassF 7 42 W (.slice (some ⟨b, 0, none⟩) xs.length c) ((preL markC cntC k xs i).set i y) F) := fun W row1 y h1 h2 => by have := hfin W row1 y h1 h2; exact this
      have hGlt : Hid (∀ d ∈ G, d < wr.heap.size) := ClassF.good.lt hrx
      have hGH : Hid (b ∉ G ∧ G.Nodup ∧ ∀ d ∈ G, d ∈ F) := ⟨hbG, hGn, hGF⟩
      have hxs := hsH.out xs[i] (List.getElem_mem hin)
      have hxsH : Hid (_ ∧ True) := ⟨hxs, trivial⟩
      clear hxs
      obtain ⟨sv, tv, G1, G2, rfl, hfl, hml, rfl⟩ := hrx
      obtain ⟨a1, k1, rfl⟩ := hfl.form
      obtain ⟨a2, k2, rfl⟩ := hml.form
      have hfH : Hid (ListF FieldF 3 46 wr (.slice a1 xs[i].fields.length k1) xs[i].fields G1) := hfl
      have hmH : Hid (ListF MethF 9 36 wr (.slice a2 xs[i].meths.length k2) xs[i].meths G2) := hml
      have hN : Hid (G1.Nodup ∧ G2.Nodup ∧ ∀ d ∈ G1, d ∉ G2) := by
        obtain ⟨h1, h2, h3⟩ := List.nodup_append.1 hGn
        exact ⟨h1, h2, fun d hd hd2 => h3 d hd d hd2 rfl⟩
      clear hfl hml
      have S0 : Hid (RowSt B b (i * 7) 7 [] wr wr [.string xs[i].name, .string xs[i].super, .slice none 0 0, .int .i64 xs[i].flags, .slice none 0 0, .slice a1 xs[i].fields.length k1, .slice a2 xs[i].meths.length k2]) := hS0
      have hbH : Hid (B ≤ b ∧ b ∈ F) := ⟨hBb, hbF⟩
      clear hst hfin hS0 hBb hrl hbG hGF hGn hle hq hbF
      go_wp2_with (first
        | (go_at_call 21; refine (markZ_calls _ (q + 0) (by omega) _ (by omega) (by omega)).mono ?_; rintro e x1 ⟨rfl, hb1⟩
           have T1 : Hid (RowSt B b (i * 7) 7 [] wr x1 [.string xs[i].name, .string xs[i].super, .slice none 0 0, .int .i64 xs[i].flags, .slice none 0 0, .slice a1 xs[i].fields.length k1, .slice a2 xs[i].meths.length k2]) := RowSt.call S0.out hbH.out.1 hb1
           have y0 : x1.cell? ⟨b, i * 7, none⟩ = some (.string xs[i].name) := by simpa using T1.out.cell 0 _ rfl
           have z0 : x1.frozen? ⟨b, i * 7, none⟩ = false := T1.out.frozen _
           clear hb1)
        | (go_at_call 21; refine (markZ_calls _ (q + 1) (by omega) _ (by omega) (by omega)).mono ?_; rintro e x2 ⟨rfl, hb2⟩
           have T2 : Hid (RowSt B b (i * 7) 7 [] wr x2 [.string (markS (q + 0)), .string xs[i].super, .slice none 0 0, .int .i64 xs[i].flags, .slice none 0 0, .slice a1 xs[i].fields.length k1, .slice a2 xs[i].meths.length k2]) := RowSt.call (RowSt.set T1.out hbH.out.1 0 (by decide) (.string (markS (q + 0)))) hbH.out.1 hb2
           have y1 : x2.cell? ⟨b, i * 7 + 1, none⟩ = some (.string xs[i].super) := by simpa using T2.out.cell 1 _ rfl
           have z1 : x2.frozen? ⟨b, i * 7 + 1, none⟩ = false := T2.out.frozen _
           have y2 : x2.cell? ⟨b, i * 7 + 2, none⟩ = some (.slice none 0 0) := by simpa using T2.out.cell 2 _ rfl
           have z2 : x2.frozen? ⟨b, i * 7 + 2, none⟩ = false := T2.out.frozen _
           have y3 : x2.cell? ⟨b, i * 7 + 3, none⟩ = some (.int .i64 xs[i].flags) := by simpa using T2.out.cell 3 _ rfl
           have z3 : x2.frozen? ⟨b, i * 7 + 3, none⟩ = false := T2.out.frozen _
           have y4 : x2.cell? ⟨b, i * 7 + 4, none⟩ = some (.slice none 0 0) := by simpa using T2.out.cell 4 _ rfl
           have z4 : x2.frozen? ⟨b, i * 7 + 4, none⟩ = false := T2.out.frozen _
           have y5 : x2.cell? ⟨b, i * 7 + 5, none⟩ = some (.slice a1 xs[i].fields.length k1) := by simpa using T2.out.cell 5 _ rfl
           have z5 : x2.frozen? ⟨b, i * 7 + 5, none⟩ = false := T2.out.frozen _
           clear hb2)
        | (go_at_call 22; refine (markStrs_none _ _ _ _).mono ?_; rintro e wz ⟨rfl, rfl⟩)
        | (go_at_call 23; have hE5 := (RowSt.set (RowSt.set T2.out hbH.out.1 1 (by decide) (.string (markS (q + 1)))) hbH.out.1 3 (by decide) (.int .i64 ((q : Int) + 1 + 1))); refine (markFieldZ_calls _ _ xs[i].fields _ G1 B (q + 3) (by omega) (hfH.out.kept FieldF.good (fun d hd => hE5.out d (hGlt.out d (List.mem_append_left _ hd)) (fun e => hGH.out.1 (e ▸ List.mem_append_left _ hd)) (by simp))) hN.out.1 (fun d hd => hF.out.2 d (hGH.out.2.2 d (List.mem_append_left _ hd))) hxsH.out.1.1 (by omega) (by have := hq2.out; unfold cntC at this; omega)).mono ?_; rintro e x3 ⟨rfl, m1, m2, m3⟩
           have T3 : Hid (RowSt B b (i * 7) 7 G1 wr x3 [.string (markS (q + 0)), .string (markS (q + 1)), .slice none 0 0, .int .i64 ((q : Int) + 1 + 1), .slice none 0 0, .slice a1 xs[i].fields.length k1, .slice a2 xs[i].meths.length k2]) := RowSt.nest hE5 m1 m3 (fun h => hGH.out.1 (List.mem_append_left _ h))
           have M2 : Hid (ListF FieldF 3 46 x3 (.slice a1 xs[i].fields.length k1) (markL markFl (fun _ => 3) (q + 3) xs[i].fields) G1) := m2
           have y6 : x3.cell? ⟨b, i * 7 + 6, none⟩ = some (.slice a2 xs[i].meths.length k2) := by simpa using T3.out.cell 6 _ rfl
           have z6 : x3.frozen? ⟨b, i * 7 + 6, none⟩ = false := T3.out.frozen _
           clear m1 m2 m3 hE5)
        | (go_at_call 24; refine (markMethS_calls _ xs[i].meths _ G2 B (q + 3 + totL (fun _ => 3) xs[i].fields) (hmH.out.kept MethF.good (fun d hd => T3.out.out d (hGlt.out d (List.mem_append_right _ hd)) (fun e => hGH.out.1 (e ▸ List.mem_append_right _ hd)) (fun h => hN.out.2.2 d h hd))) hN.out.2.1 (fun d hd => hF.out.2 d (hGH.out.2.2 d (List.mem_append_right _ hd))) hxsH.out.1.2.1 hxsH.out.1.2.2 (by omega) (by have := hq2.out; unfold cntC at this; omega)).mono ?_; rintro e x4 ⟨rfl, m1, m2, m3⟩
           have T4 : Hid (RowSt B b (i * 7) 7 (G1 ++ G2) wr x4 [.string (markS (q + 0)), .string (markS (q + 1)), .slice none 0 0, .int .i64 ((q : Int) + 1 + 1), .slice none 0 0, .slice a1 xs[i].fields.length k1, .slice a2 xs[i].meths.length k2]) := RowSt.nest T3.out m1 m3 (fun h => hGH.out.1 (List.mem_append_right _ h))
           have M3 : Hid (ListF MethF 9 36 x4 (.slice a2 xs[i].meths.length k2) (markL markM cntM (q + 3 + totL (fun _ => 3) xs[i].fields) xs[i].meths) G2) := m2
           have M4 : Hid (ListF FieldF 3 46 x4 (.slice a1 xs[i].fields.length k1) (markL markFl (fun _ => 3) (q + 3) xs[i].fields) G1) := M2.out.kept FieldF.good (fun d hd => m3 d (M2.out.lt FieldF.good d hd) (hN.out.2.2 d hd))
           clear m1 m2 m3))
      go_roundw
      case rel =>
        have hE := T4.out
        refine ⟨i + 1, by simp only [Value.int.injEq, true_and]; have h := hsucc.out; simp only [cntC] at h ⊢; omega, by simp, by omega, hbw.out.trans hE.hb, ?_, fun c hc hcF => ?_⟩
        · show ListF _ _ _ _ _ _ _
          rw [← hstH.out]
          exact hfinH.out _ _ _ hE ⟨_, _, G1, G2, rfl, M4.out, M3.out, rfl⟩
        · rw [hE.out c (Nat.lt_of_lt_of_le hc hbw.out.size) (fun e => hcF (e ▸ hbH.out.2)) (fun h => hcF (hGH.out.2.2 c h))]
          exact hot.out c hc hcF
      case measure => first | (simp [intOf]; done) | (simp [intOf]; omega)
    · have hin1 : ¬ (i : Int) < xs.length := by omega
      obtain rfl : i = xs.length := by omega
      go_wp2
      go_ret
      refine ⟨by simp, hbw.out, ?_, hot.out⟩
      have := hls.out
      rwa [preL_end] at this

end Go.Proofs.YtnoffenkmcmpfaaDoor
