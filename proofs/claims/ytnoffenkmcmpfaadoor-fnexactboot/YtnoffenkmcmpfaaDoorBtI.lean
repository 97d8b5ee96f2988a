/- laws.mark.. over lists: fields and instructions. -/
import Derived.Test.YtnoffenkmcmpfaaDoorBtH
namespace Go.Proofs.YtnoffenkmcmpfaaDoor
set_option linter.unusedVariables false
open Go.ChangeShapes Go.WideShapes Go.ChangeAt Go.RowKit

def markL {α : Type} (mk : Nat → α → α) (cnt : α → Nat) : Nat → List α → List α
  | _, [] => []
  | k, x :: xs => mk k x :: markL mk cnt (k + cnt x) xs
def totL {α : Type} (cnt : α → Nat) (xs : List α) : Nat := (xs.map cnt).sum
theorem markL_append {α : Type} (mk : Nat → α → α) (cnt : α → Nat) : ∀ (xs ys : List α) (k : Nat), markL mk cnt k (xs ++ ys) = markL mk cnt k xs ++ markL mk cnt (k + totL cnt xs) ys
  | [], ys, k => by simp [markL, totL]
  | x :: xs, ys, k => by
    simp only [List.cons_append, markL, markL_append mk cnt xs ys, List.cons.injEq, true_and]
    rw [show k + totL cnt (x :: xs) = k + cnt x + totL cnt xs by simp [totL]; omega]
theorem markL_length {α : Type} (mk : Nat → α → α) (cnt : α → Nat) : ∀ (xs : List α) (k : Nat), (markL mk cnt k xs).length = xs.length
  | [], _ => rfl
  | x :: xs, k => by simp [markL, markL_length mk cnt xs]
/-- The list when the first i elements are marked. -/
def preL {α : Type} (mk : Nat → α → α) (cnt : α → Nat) (k : Nat) (xs : List α) (i : Nat) : List α := markL mk cnt k (xs.take i) ++ xs.drop i
theorem preL_zero {α : Type} (mk : Nat → α → α) (cnt : α → Nat) (k : Nat) (xs : List α) : preL mk cnt k xs 0 = xs := by simp [preL, markL]
theorem preL_end {α : Type} (mk : Nat → α → α) (cnt : α → Nat) (k : Nat) (xs : List α) : preL mk cnt k xs xs.length = markL mk cnt k xs := by simp [preL]
theorem preL_length {α : Type} (mk : Nat → α → α) (cnt : α → Nat) (k : Nat) (xs : List α) (i : Nat) : (preL mk cnt k xs i).length = xs.length := by
  simp [preL, markL_length]; omega
theorem preL_at {α : Type} (mk : Nat → α → α) (cnt : α → Nat) (k : Nat) (xs : List α) (i : Nat) (h : i < xs.length) (h' : i < (preL mk cnt k xs i).length) : (preL mk cnt k xs i)[i] = xs[i] := by
  have hl : (markL mk cnt k (xs.take i)).length = i := by rw [markL_length]; simp; omega
  have e : (preL mk cnt k xs i)[i]? = some xs[i] := by
    unfold preL
    rw [List.getElem?_append_right (by omega), hl]
    simp [h]
  exact (List.getElem?_eq_some_iff.1 e).2
theorem preL_step {α : Type} (mk : Nat → α → α) (cnt : α → Nat) (k : Nat) (xs : List α) (i : Nat) (h : i < xs.length) : (preL mk cnt k xs i).set i (mk (k + totL cnt (xs.take i)) xs[i]) = preL mk cnt k xs (i + 1) := by
  have hl : (markL mk cnt k (xs.take i)).length = i := by rw [markL_length]; simp; omega
  unfold preL
  rw [← List.take_append_getElem h, markL_append, List.set_append_right _ _ (by omega), hl, Nat.sub_self, List.append_assoc]
  congr 1
  rw [List.drop_eq_getElem_cons h]
  rfl
theorem totL_succ {α : Type} (cnt : α → Nat) (xs : List α) (i : Nat) (h : i < xs.length) : totL cnt (xs.take (i + 1)) = totL cnt (xs.take i) + cnt xs[i] := by
  have e := List.take_append_getElem h
  unfold totL
  rw [← e, List.map_append, List.sum_append]
  simp only [List.map_cons, List.map_nil, List.sum_cons, List.sum_nil, Nat.add_zero]
theorem totL_le {α : Type} (cnt : α → Nat) (xs : List α) (i : Nat) : totL cnt (xs.take i) ≤ totL cnt xs := by
  have : totL cnt xs = totL cnt (xs.take i) + totL cnt (xs.drop i) := by
    unfold totL
    rw [← List.sum_append, ← List.map_append, List.take_append_drop]
  omega
theorem markZ_calls (z : Int) (k : Nat) (hz : z = k) (w : World) (h0 : 1 ≤ k) (hk : k ≤ 4194304) : Calls Tryd.prog 21 #[.int .i64 z] w fun e w' => e = .returned (.string (markS k)) ∧ Below w.heap.size w w' := by
  subst hz
  exact markText_calls k w h0 hk
/-- What a mark of a list says. -/
def MarkQ {α : Type} (R : RdF α) (n : Nat) (t : TypeId) (mk : Nat → α → α) (cnt : α → Nat) (B k : Nat) (xs : List α) (F : List Nat) (v : Value) (w : World) (e : Ending) (w' : World) : Prop :=
  e = .returned (.int .i64 ((k + totL cnt xs : Nat) : Int)) ∧ Below B w w' ∧ ListF R n t w' v (markL mk cnt k xs) F ∧ ∀ c, c < w.heap.size → c ∉ F → w'.heap[c]? = w.heap[c]?
def markFl (k : Nat) (x : FieldL) : FieldL := ⟨markS k, markS (k + 1), (k : Int) + 1 + 1⟩
def markIn (k : Nat) (x : InsL) : InsL := ⟨(k : Int), (k : Int) + 1, (k : Int) + 1 + 1, (k : Int) + 1 + 1 + 1, markS (k + 4), markS (k + 5), markS (k + 6), markS (k + 7)⟩

set_option maxRecDepth 1000000 in
set_option maxHeartbeats 8000000 in
theorem markFieldS_calls (v : Value) (xs : List FieldL) (w : World) (F : List Nat) (B k : Nat) (hl : ListF FieldF 3 46 w v xs F) (hnd : F.Nodup) (hB : ∀ b ∈ F, B ≤ b) (hn : xs.length ≤ 1048576) (hk1 : 1 ≤ k) (hk2 : k + totL (fun _ => 3) xs ≤ 4194000) :
    Calls Tryd.prog 23 #[v, .int .i64 k] w (MarkQ FieldF 3 46 markFl (fun _ => 3) B k xs F v w) := by
  obtain ⟨a, c, rfl⟩ := hl.form
  have hlH : Hid (ListF FieldF 3 46 w (.slice a xs.length c) xs F) := hl
  have hF : Hid (F.Nodup ∧ ∀ b ∈ F, B ≤ b) := ⟨hnd, hB⟩
  clear hl hnd hB
  go_enter Tryd.func23, Tryd.ntmps23
  go_wp2
  go_loopw [1, 5] (fun kv iv wr => ∃ i : Nat, kv = .int .i64 ((k + totL (fun _ => 3) (xs.take i) : Nat) : Int) ∧ iv = .int .i64 i ∧ i ≤ xs.length ∧ Hid (Below B w wr) ∧ Hid (ListF FieldF 3 46 wr (.slice a xs.length c) (preL markFl (fun _ => 3) k xs i) F) ∧ Hid (∀ c, c < w.heap.size → c ∉ F → wr.heap[c]? = w.heap[c]?)) (fun _ iv _ => xs.length - (intOf iv).toNat)
  case atStart => exact ⟨0, by simp [totL], rfl, Nat.zero_le _, Below.refl _ _, by show ListF _ _ _ _ _ _ _; rw [preL_zero]; exact hlH.out, fun _ _ _ => rfl⟩
  case round =>
    obtain ⟨i, rfl, rfl, hi, hbw, hls, hot⟩ := hrel
    by_cases hin : i < xs.length
    · have hin1 : (i : Int) < xs.length := by omega
      have hle := totL_le (fun _ => 3) xs (i + 1)
      rw [totL_succ _ _ _ hin] at hle
      obtain ⟨b, G, row, ⟨c', hv⟩, hrl, hrx, hbF, hbG, hGn, hGF, hS0, hfin⟩ := hls.out.step FieldF.good hF.out.1 (j := i) (by rw [preL_length]; exact hin) (W := wr) (B := B) (b := 0) (G := []) (row := []) (y := xs[i])
      injection hv with hv1 hv2 hv3
      subst hv1
      clear hv2 hv3
      rw [preL_at _ _ _ _ _ hin] at hrx
      have hBb : B ≤ b := hF.out.2 b hbF
      obtain ⟨q, hq⟩ : ∃ q : Nat, k + totL (fun _ => 3) (xs.take i) = q := ⟨_, rfl⟩
      have hst := preL_step markFl (fun _ => 3) k xs i hin
      rw [hq] at hst ⊢
      have hq1 : 1 ≤ q := by omega
      have hq2 : q + 3 ≤ 4194304 := by omega
      have hsucc : Hid (k + totL (fun _ => 3) (xs.take (i + 1)) = q + 3) := by show _ = _; rw [totL_succ _ _ _ hin]; omega
      have hstH : Hid ((preL markFl (fun _ => 3) k xs i).set i (markFl q xs[i]) = preL markFl (fun _ => 3) k xs (i + 1)) := hst
      have hfinH : Hid (∀ W row1 y, RowSt B b (i * 3) 3 G wr W row1 → FieldF W row1 y G → ListF FieldF 3 46 W (.slice (some ⟨b, 0, none⟩) xs.length c) ((preL markFl (fun _ => 3) k xs i).set i y) F) := fun W row1 y h1 h2 => by have := hfin W row1 y h1 h2; exact this
      obtain ⟨rfl, rfl⟩ := hrx
      have S0 : Hid (RowSt B b (i * 3) 3 [] wr wr [.string xs[i].name, .string xs[i].ty, .int .i64 xs[i].flags]) := hS0
      have hbH : Hid (B ≤ b ∧ b ∈ F) := ⟨hBb, hbF⟩
      clear hst hfin hS0 hBb hrl hbG hGF hGn hle hq hbF
      go_wp2_with (first
        | (go_at_call 21; refine (markZ_calls _ (q + 0) (by omega) _ (by omega) (by omega)).mono ?_; rintro e x1 ⟨rfl, hb1⟩
           have T1 : Hid (RowSt B b (i * 3) 3 [] wr x1 [.string xs[i].name, .string xs[i].ty, .int .i64 xs[i].flags]) := RowSt.call S0.out hbH.out.1 hb1
           have y0 : x1.cell? ⟨b, i * 3, none⟩ = some (.string xs[i].name) := by simpa using T1.out.cell 0 _ rfl
           have z0 : x1.frozen? ⟨b, i * 3, none⟩ = false := T1.out.frozen _
           clear hb1)
        | (go_at_call 21; refine (markZ_calls _ (q + 1) (by omega) _ (by omega) (by omega)).mono ?_; rintro e x2 ⟨rfl, hb2⟩
           have T2 : Hid (RowSt B b (i * 3) 3 [] wr x2 [.string (markS (q + 0)), .string xs[i].ty, .int .i64 xs[i].flags]) := RowSt.call (RowSt.set T1.out hbH.out.1 0 (by decide) (.string (markS (q + 0)))) hbH.out.1 hb2
           have y1 : x2.cell? ⟨b, i * 3 + 1, none⟩ = some (.string xs[i].ty) := by simpa using T2.out.cell 1 _ rfl
           have z1 : x2.frozen? ⟨b, i * 3 + 1, none⟩ = false := T2.out.frozen _
           have y2 : x2.cell? ⟨b, i * 3 + 2, none⟩ = some (.int .i64 xs[i].flags) := by simpa using T2.out.cell 2 _ rfl
           have z2 : x2.frozen? ⟨b, i * 3 + 2, none⟩ = false := T2.out.frozen _
           clear hb2))
      go_roundw
      case rel =>
        have hE := (RowSt.set (RowSt.set T2.out hbH.out.1 1 (by decide) (.string (markS (q + 1)))) hbH.out.1 2 (by decide) (.int .i64 ((q : Int) + 1 + 1)))
        refine ⟨i + 1, by simp only [Value.int.injEq, true_and]; have := hsucc.out; omega, by simp, by omega, hbw.out.trans hE.hb, ?_, fun c hc hcF => ?_⟩
        · show ListF _ _ _ _ _ _ _
          rw [← hstH.out]
          exact hfinH.out _ _ _ hE ⟨rfl, rfl⟩
        · rw [hE.out c (Nat.lt_of_lt_of_le hc hbw.out.size) (fun e => hcF (e ▸ hbH.out.2)) (by simp)]
          exact hot.out c hc hcF
      case measure => first | (simp [intOf]; done) | (simp [intOf]; omega)
    · have hin1 : ¬ (i : Int) < xs.length := by omega
      obtain rfl : i = xs.length := by omega
      go_wp2
      go_ret
      refine ⟨by simp, hbw.out, ?_, hot.out⟩
      have := hls.out
      rwa [preL_end] at this

theorem markInts_none (a : Option Addr) (c : Nat) (z : Int) (w : World) : Calls Tryd.prog 45 #[.slice a 0 c, .int .i64 z] w fun e w' => e = .returned (.int .i64 z) ∧ w' = w := by
  go_enter Tryd.func45, Tryd.ntmps45
  go_wp2
  go_loop [1, 5] (fun kv iv => kv = .int .i64 z ∧ iv = .int .i64 0) (fun _ _ => 0)
  case atStart => exact ⟨rfl, rfl⟩
  case round =>
    obtain ⟨rfl, rfl⟩ := hrel
    go_wp2
    go_ret
    exact ⟨rfl, rfl⟩

theorem markHands_none (a : Option Addr) (c : Nat) (z : Int) (w : World) : Calls Tryd.prog 36 #[.slice a 0 c, .int .i64 z] w fun e w' => e = .returned (.int .i64 z) ∧ w' = w := by
  go_enter Tryd.func36, Tryd.ntmps36
  go_wp2
  go_loop [1, 5] (fun kv iv => kv = .int .i64 z ∧ iv = .int .i64 0) (fun _ _ => 0)
  case atStart => exact ⟨rfl, rfl⟩
  case round =>
    obtain ⟨rfl, rfl⟩ := hrel
    go_wp2
    go_ret
    exact ⟨rfl, rfl⟩

theorem markFrames_none (a : Option Addr) (c : Nat) (z : Int) (w : World) : Calls Tryd.prog 37 #[.slice a 0 c, .int .i64 z] w fun e w' => e = .returned (.int .i64 z) ∧ w' = w := by
  go_enter Tryd.func37, Tryd.ntmps37
  go_wp2
  go_loop [1, 5] (fun kv iv => kv = .int .i64 z ∧ iv = .int .i64 0) (fun _ _ => 0)
  case atStart => exact ⟨rfl, rfl⟩
  case round =>
    obtain ⟨rfl, rfl⟩ := hrel
    go_wp2
    go_ret
    exact ⟨rfl, rfl⟩

theorem markLines_none (a : Option Addr) (c : Nat) (z : Int) (w : World) : Calls Tryd.prog 38 #[.slice a 0 c, .int .i64 z] w fun e w' => e = .returned (.int .i64 z) ∧ w' = w := by
  go_enter Tryd.func38, Tryd.ntmps38
  go_wp2
  go_loop [1, 5] (fun kv iv => kv = .int .i64 z ∧ iv = .int .i64 0) (fun _ _ => 0)
  case atStart => exact ⟨rfl, rfl⟩
  case round =>
    obtain ⟨rfl, rfl⟩ := hrel
    go_wp2
    go_ret
    exact ⟨rfl, rfl⟩

theorem markStrs_none (a : Option Addr) (c : Nat) (z : Int) (w : World) : Calls Tryd.prog 22 #[.slice a 0 c, .int .i64 z] w fun e w' => e = .returned (.int .i64 z) ∧ w' = w := by
  go_enter Tryd.func22, Tryd.ntmps22
  go_wp2
  go_loop [1, 5] (fun kv iv => kv = .int .i64 z ∧ iv = .int .i64 0) (fun _ _ => 0)
  case atStart => exact ⟨rfl, rfl⟩
  case round =>
    obtain ⟨rfl, rfl⟩ := hrel
    go_wp2
    go_ret
    exact ⟨rfl, rfl⟩

set_option maxRecDepth 1000000 in
set_option maxHeartbeats 8000000 in
theorem markInsS_calls (v : Value) (xs : List InsL) (w : World) (F : List Nat) (B k : Nat) (hl : ListF InsF 9 29 w v xs F) (hnd : F.Nodup) (hB : ∀ b ∈ F, B ≤ b) (hn : xs.length ≤ 1048576) (hk1 : 1 ≤ k) (hk2 : k + totL (fun _ => 8) xs ≤ 4194000) :
    Calls Tryd.prog 35 #[v, .int .i64 k] w (MarkQ InsF 9 29 markIn (fun _ => 8) B k xs F v w) := by
  obtain ⟨a, c, rfl⟩ := hl.form
  have hlH : Hid (ListF InsF 9 29 w (.slice a xs.length c) xs F) := hl
  have hF : Hid (F.Nodup ∧ ∀ b ∈ F, B ≤ b) := ⟨hnd, hB⟩
  clear hl hnd hB
  go_enter Tryd.func35, Tryd.ntmps35
  go_wp2
  go_loopw [1, 5] (fun kv iv wr => ∃ i : Nat, kv = .int .i64 ((k + totL (fun _ => 8) (xs.take i) : Nat) : Int) ∧ iv = .int .i64 i ∧ i ≤ xs.length ∧ Hid (Below B w wr) ∧ Hid (ListF InsF 9 29 wr (.slice a xs.length c) (preL markIn (fun _ => 8) k xs i) F) ∧ Hid (∀ c, c < w.heap.size → c ∉ F → wr.heap[c]? = w.heap[c]?)) (fun _ iv _ => xs.length - (intOf iv).toNat)
  case atStart => exact ⟨0, by simp [totL], rfl, Nat.zero_le _, Below.refl _ _, by show ListF _ _ _ _ _ _ _; rw [preL_zero]; exact hlH.out, fun _ _ _ => rfl⟩
  case round =>
    obtain ⟨i, rfl, rfl, hi, hbw, hls, hot⟩ := hrel
    by_cases hin : i < xs.length
    · have hin1 : (i : Int) < xs.length := by omega
      have hle := totL_le (fun _ => 8) xs (i + 1)
      rw [totL_succ _ _ _ hin] at hle
      obtain ⟨b, G, row, ⟨c', hv⟩, hrl, hrx, hbF, hbG, hGn, hGF, hS0, hfin⟩ := hls.out.step InsF.good hF.out.1 (j := i) (by rw [preL_length]; exact hin) (W := wr) (B := B) (b := 0) (G := []) (row := []) (y := xs[i])
      injection hv with hv1 hv2 hv3
      subst hv1
      clear hv2 hv3
      rw [preL_at _ _ _ _ _ hin] at hrx
      have hBb : B ≤ b := hF.out.2 b hbF
      obtain ⟨q, hq⟩ : ∃ q : Nat, k + totL (fun _ => 8) (xs.take i) = q := ⟨_, rfl⟩
      have hst := preL_step markIn (fun _ => 8) k xs i hin
      rw [hq] at hst ⊢
      have hq1 : 1 ≤ q := by omega
      have hq2 : q + 8 ≤ 4194304 := by omega
      have hsucc : Hid (k + totL (fun _ => 8) (xs.take (i + 1)) = q + 8) := by show _ = _; rw [totL_succ _ _ _ hin]; omega
      have hstH : Hid ((preL markIn (fun _ => 8) k xs i).set i (markIn q xs[i]) = preL markIn (fun _ => 8) k xs (i + 1)) := hst
      have hfinH : Hid (∀ W row1 y, RowSt B b (i * 9) 9 G wr W row1 → InsF W row1 y G → ListF InsF 9 29 W (.slice (some ⟨b, 0, none⟩) xs.length c) ((preL markIn (fun _ => 8) k xs i).set i y) F) := fun W row1 y h1 h2 => by have := hfin W row1 y h1 h2; exact this
      obtain ⟨rfl, rfl⟩ := hrx
      have S0 : Hid (RowSt B b (i * 9) 9 [] wr wr [.int .i64 xs[i].o, .int .i64 xs[i].k, .int .i64 xs[i].a, .int .i64 xs[i].b, .string xs[i].T, .string xs[i].C, .string xs[i].N, .string xs[i].Y, .slice none 0 0]) := hS0
      have hbH : Hid (B ≤ b ∧ b ∈ F) := ⟨hBb, hbF⟩
      clear hst hfin hS0 hBb hrl hbG hGF hGn hle hq hbF
      have y0 : wr.cell? ⟨b, i * 9, none⟩ = some (.int .i64 xs[i].o) := by simpa using S0.out.cell 0 _ rfl
      have z0 : wr.frozen? ⟨b, i * 9, none⟩ = false := S0.out.frozen _
      have y1 : wr.cell? ⟨b, i * 9 + 1, none⟩ = some (.int .i64 xs[i].k) := by simpa using S0.out.cell 1 _ rfl
      have z1 : wr.frozen? ⟨b, i * 9 + 1, none⟩ = false := S0.out.frozen _
      have y2 : wr.cell? ⟨b, i * 9 + 2, none⟩ = some (.int .i64 xs[i].a) := by simpa using S0.out.cell 2 _ rfl
      have z2 : wr.frozen? ⟨b, i * 9 + 2, none⟩ = false := S0.out.frozen _
      have y3 : wr.cell? ⟨b, i * 9 + 3, none⟩ = some (.int .i64 xs[i].b) := by simpa using S0.out.cell 3 _ rfl
      have z3 : wr.frozen? ⟨b, i * 9 + 3, none⟩ = false := S0.out.frozen _
      go_wp2_with (first
        | (go_at_call 21; refine (markZ_calls _ (q + 4) (by omega) _ (by omega) (by omega)).mono ?_; rintro e x1 ⟨rfl, hb1⟩
           have T1 : Hid (RowSt B b (i * 9) 9 [] wr x1 [.int .i64 ((q : Int)), .int .i64 ((q : Int) + 1), .int .i64 ((q : Int) + 1 + 1), .int .i64 ((q : Int) + 1 + 1 + 1), .string xs[i].T, .string xs[i].C, .string xs[i].N, .string xs[i].Y, .slice none 0 0]) := RowSt.call (RowSt.set (RowSt.set (RowSt.set (RowSt.set S0.out hbH.out.1 0 (by decide) (.int .i64 ((q : Int)))) hbH.out.1 1 (by decide) (.int .i64 ((q : Int) + 1))) hbH.out.1 2 (by decide) (.int .i64 ((q : Int) + 1 + 1))) hbH.out.1 3 (by decide) (.int .i64 ((q : Int) + 1 + 1 + 1))) hbH.out.1 hb1
           have y4 : x1.cell? ⟨b, i * 9 + 4, none⟩ = some (.string xs[i].T) := by simpa using T1.out.cell 4 _ rfl
           have z4 : x1.frozen? ⟨b, i * 9 + 4, none⟩ = false := T1.out.frozen _
           clear hb1)
        | (go_at_call 21; refine (markZ_calls _ (q + 5) (by omega) _ (by omega) (by omega)).mono ?_; rintro e x2 ⟨rfl, hb2⟩
           have T2 : Hid (RowSt B b (i * 9) 9 [] wr x2 [.int .i64 ((q : Int)), .int .i64 ((q : Int) + 1), .int .i64 ((q : Int) + 1 + 1), .int .i64 ((q : Int) + 1 + 1 + 1), .string (markS (q + 4)), .string xs[i].C, .string xs[i].N, .string xs[i].Y, .slice none 0 0]) := RowSt.call (RowSt.set T1.out hbH.out.1 4 (by decide) (.string (markS (q + 4)))) hbH.out.1 hb2
           have y5 : x2.cell? ⟨b, i * 9 + 5, none⟩ = some (.string xs[i].C) := by simpa using T2.out.cell 5 _ rfl
           have z5 : x2.frozen? ⟨b, i * 9 + 5, none⟩ = false := T2.out.frozen _
           clear hb2)
        | (go_at_call 21; refine (markZ_calls _ (q + 6) (by omega) _ (by omega) (by omega)).mono ?_; rintro e x3 ⟨rfl, hb3⟩
           have T3 : Hid (RowSt B b (i * 9) 9 [] wr x3 [.int .i64 ((q : Int)), .int .i64 ((q : Int) + 1), .int .i64 ((q : Int) + 1 + 1), .int .i64 ((q : Int) + 1 + 1 + 1), .string (markS (q + 4)), .string (markS (q + 5)), .string xs[i].N, .string xs[i].Y, .slice none 0 0]) := RowSt.call (RowSt.set T2.out hbH.out.1 5 (by decide) (.string (markS (q + 5)))) hbH.out.1 hb3
           have y6 : x3.cell? ⟨b, i * 9 + 6, none⟩ = some (.string xs[i].N) := by simpa using T3.out.cell 6 _ rfl
           have z6 : x3.frozen? ⟨b, i * 9 + 6, none⟩ = false := T3.out.frozen _
           clear hb3)
        | (go_at_call 21; refine (markZ_calls _ (q + 7) (by omega) _ (by omega) (by omega)).mono ?_; rintro e x4 ⟨rfl, hb4⟩
           have T4 : Hid (RowSt B b (i * 9) 9 [] wr x4 [.int .i64 ((q : Int)), .int .i64 ((q : Int) + 1), .int .i64 ((q : Int) + 1 + 1), .int .i64 ((q : Int) + 1 + 1 + 1), .string (markS (q + 4)), .string (markS (q + 5)), .string (markS (q + 6)), .string xs[i].Y, .slice none 0 0]) := RowSt.call (RowSt.set T3.out hbH.out.1 6 (by decide) (.string (markS (q + 6)))) hbH.out.1 hb4
           have y7 : x4.cell? ⟨b, i * 9 + 7, none⟩ = some (.string xs[i].Y) := by simpa using T4.out.cell 7 _ rfl
           have z7 : x4.frozen? ⟨b, i * 9 + 7, none⟩ = false := T4.out.frozen _
           have y8 : x4.cell? ⟨b, i * 9 + 8, none⟩ = some (.slice none 0 0) := by simpa using T4.out.cell 8 _ rfl
           have z8 : x4.frozen? ⟨b, i * 9 + 8, none⟩ = false := T4.out.frozen _
           clear hb4)
        | (go_at_call 45; refine (markInts_none _ _ _ _).mono ?_; rintro e wz ⟨rfl, rfl⟩))
      go_roundw
      case rel =>
        have hE := (RowSt.set T4.out hbH.out.1 7 (by decide) (.string (markS (q + 7))))
        refine ⟨i + 1, by simp only [Value.int.injEq, true_and]; have := hsucc.out; omega, by simp, by omega, hbw.out.trans hE.hb, ?_, fun c hc hcF => ?_⟩
        · show ListF _ _ _ _ _ _ _
          rw [← hstH.out]
          exact hfinH.out _ _ _ hE ⟨rfl, rfl⟩
        · rw [hE.out c (Nat.lt_of_lt_of_le hc hbw.out.size) (fun e => hcF (e ▸ hbH.out.2)) (by simp)]
          exact hot.out c hc hcF
      case measure => first | (simp [intOf]; done) | (simp [intOf]; omega)
    · have hin1 : ¬ (i : Int) < xs.length := by omega
      obtain rfl : i = xs.length := by omega
      go_wp2
      go_ret
      refine ⟨by simp, hbw.out, ?_, hot.out⟩
      have := hls.out
      rwa [preL_end] at this

end Go.Proofs.YtnoffenkmcmpfaaDoor
