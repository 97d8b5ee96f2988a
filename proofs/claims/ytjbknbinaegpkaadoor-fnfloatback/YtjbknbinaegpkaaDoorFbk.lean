/- The drawing of a float and of a text of a float; what the two readers say of a text that is drawn twice. -/
import Derived.Test.YtjbknbinaegpkaaDoorDtx
import Derived.Test.YtjbknbinaegpkaaDoorOrd
import Derived.Test.YtjbknbinaegpkaaDoorSpt
namespace Go.Proofs.YtjbknbinaegpkaaDoor
set_option linter.unusedVariables false
open Go.ChangeShapes Go.WideShapes Go.ChangeAt Go.RowKit

theorem show_len (a : Int) : (showL a).length ≤ 40 := by
  by_cases c2 : openC a = 2
  · have hr : showL a = [110, 97, 110] := by unfold showL; rw [if_pos c2]
    rw [hr]; simp
  · by_cases c1 : openC a = 1
    · have hr : showL a = sgn a ++ [105, 110, 102] := by unfold showL; rw [if_neg c2, if_pos c1]
      rw [hr]; unfold sgn; split <;> simp
    · obtain ⟨b1, b2, b3⟩ := odd_two a
      rw [show_odd c1 c2]
      have l1 : (sgn a).length ≤ 1 := by unfold sgn; split <;> simp
      have l2 : (Lib.decDigits (oddL a).1).length ≤ 16 := dec_len 15 _ (by have : (10 : Nat) ^ (15 + 1) = 10000000000000000 := by decide
                                                                           omega)
      have l3 : (Lib.itoa (oddL a).2).length ≤ 16 := by
        unfold Lib.itoa
        have h4 : (10 : Nat) ^ (3 + 1) = 10000 := by decide
        split
        · have := dec_len 3 (oddL a).2.natAbs (by omega)
          simp; omega
        · have := dec_len 3 (oddL a).2.toNat (by omega)
          omega
      simp; omega
theorem show_some (a : Int) : showL a ≠ [] := by
  by_cases c2 : openC a = 2
  · have hr : showL a = [110, 97, 110] := by unfold showL; rw [if_pos c2]
    rw [hr]; simp
  · by_cases c1 : openC a = 1
    · have hr : showL a = sgn a ++ [105, 110, 102] := by unfold showL; rw [if_neg c2, if_pos c1]
      rw [hr]; simp
    · rw [show_odd c1 c2]; simp
theorem show_canon (a : Int) : showL (canon a) = showL a := by
  unfold canon
  split
  · rename_i c2
    have hr : showL a = [110, 97, 110] := by unfold showL; rw [if_pos c2]
    have hr2 : showL 9221120237041090560 = [110, 97, 110] := by unfold showL; rw [if_pos (by decide)]
    rw [hr, hr2]
  · rfl
theorem read_back (a : Int) (h1 : -9223372036854775808 ≤ a) (h2 : a < 9223372036854775808) : ansOf (guessI (showL a)) (showL a) = (canon a, true) := by
  rw [guessI_show a h1 h2, ans_some, if_pos (show_canon a)]
theorem read_twice {l : List UInt8} {z : Int} (h : ansOf (guessI l) l = (z, true)) : showL z = l ∧ canon z = z ∧ I64 z := by
  cases hg : guessI l with
  | none => rw [hg] at h; cases h
  | some x =>
    rw [hg, ans_some] at h
    by_cases hx : showL x = l
    · rw [if_pos hx] at h
      injection h with h
      subst h
      have hin := guessI_in hg
      refine ⟨hx, ?_, hin⟩
      rw [← hx, guessI_show x hin.1 hin.2] at hg
      injection hg
    · rw [if_neg hx] at h; cases h

theorem Cux.belowOf {zs : List Int} {len : Nat} {st : Nat × Int} {C : Option Addr} {cap p : Nat} {w0 w : World} (h : Cux zs len st C cap p w0 w) : Below w0.heap.size w0 w := h.bel

set_option maxRecDepth 1000000 in
theorem drawShow_calls (C : Option Addr) (len cap : Nat) (w : World) (hc : Code C len w) :
    Calls Tryd.prog 8 #[.slice C len cap] w fun e w' => ∃ x : Int, I64 x ∧ e = .returned (.int .i64 x) ∧ Below w.heap.size w w' := by
  have newH : Hid (Calls Tryd.prog 20 #[.slice C len cap] w fun e w' => e = .returned (.pointer (some ⟨w.heap.size, 0, none⟩)) ∧ Cur C len cap w.heap.size w w') := new_calls C len cap w hc
  have bitsH : Hid (∀ w1, Cur C len cap w.heap.size w w1 → Calls Tryd.prog 21 #[.pointer (some ⟨w.heap.size, 0, none⟩)] w1 fun e w' => ∃ x : Int, I64 x ∧ e = .returned (.int .i64 x) ∧ Cur C len cap w.heap.size w w') := fun w1 hc => drawBits_calls C len cap _ w w1 hc
  clear hc
  go_enter Tryd.func8, Tryd.ntmps8
  go_wp2_with (first
    | (go_at_call 20; refine newH.out.mono ?_; rintro e w1 ⟨rfl, hc1⟩)
    | (go_at_call 21; refine (bitsH.out _ (by assumption)).mono ?_; rintro e w4 ⟨x4, hx4, rfl, hc4⟩))
  go_ret
  exact ⟨_, hx4, rfl, hc4.bel⟩

/-- A cell of a block of nine texts that was laid ahead of a drawing: the same in every world. -/
theorem nineX (a b c d e f g h i : ByteArray) (t : TypeId) (N : Nat) (hs : ∀ v : ByteArray, (v = a ∨ v = b ∨ v = c ∨ v = d ∨ v = e ∨ v = f ∨ v = g ∨ v = h ∨ v = i) → v.size ≤ N) (r : Int) (h0 : 0 ≤ r) (h8 : r < 9) :
    ∃ v : ByteArray, v.size ≤ N ∧ ∀ (p : Nat) (W w2 : World), Only p (W.alloc (.cells #[.string a, .string b, .string c, .string d, .string e, .string f, .string g, .string h, .string i] t)) w2 → p < W.heap.size → w2.cell? ⟨W.heap.size, r.toNat, none⟩ = some (.string v) := by
  have key : ∀ v : ByteArray, (#[Value.string a, .string b, .string c, .string d, .string e, .string f, .string g, .string h, .string i] : Array Value)[r.toNat]? = some (.string v) → ∀ (p : Nat) (W w2 : World), Only p (W.alloc (.cells #[.string a, .string b, .string c, .string d, .string e, .string f, .string g, .string h, .string i] t)) w2 → p < W.heap.size → w2.cell? ⟨W.heap.size, r.toNat, none⟩ = some (.string v) := fun v hv p W w2 ho hp => by
    rw [ho.cell (by simp) (by omega), World.cell?_alloc_new]
    exact hv
  have hr : r = 0 ∨ r = 1 ∨ r = 2 ∨ r = 3 ∨ r = 4 ∨ r = 5 ∨ r = 6 ∨ r = 7 ∨ r = 8 := by omega
  rcases hr with rfl | rfl | rfl | rfl | rfl | rfl | rfl | rfl | rfl
  · exact ⟨a, hs a (by simp), key a rfl⟩
  · exact ⟨b, hs b (by simp), key b rfl⟩
  · exact ⟨c, hs c (by simp), key c rfl⟩
  · exact ⟨d, hs d (by simp), key d rfl⟩
  · exact ⟨e, hs e (by simp), key e rfl⟩
  · exact ⟨f, hs f (by simp), key f rfl⟩
  · exact ⟨g, hs g (by simp), key g rfl⟩
  · exact ⟨h, hs h (by simp), key h rfl⟩
  · exact ⟨i, hs i (by simp), key i rfl⟩

set_option maxRecDepth 1000000 in
set_option maxHeartbeats 8000000 in
theorem readText_det (zs : List Int) (len : Nat) : ∃ s : ByteArray, s.size ≤ 1000 ∧ ∀ (C : Option Addr) (cap : Nat) (w : World), Codx C zs len w → Calls Tryd.prog 11 #[.slice C len cap] w fun e w' => e = .returned (.string s) ∧ Below w.heap.size w w' := by
  obtain ⟨x1, st2, hx1, H1⟩ := bits_det zs len (0, hAll zs len len)
  obtain ⟨x2, st3, a2, b2, H2⟩ := below_det 12 (by decide) zs len st2
  have hsz : (mkS (showL x1)).size ≤ 40 := by rw [← toList_size, mkS_list]; exact show_len x1
  have newH : Hid (∀ C cap w, Codx C zs len w → Calls Tryd.prog 20 #[.slice C len cap] w fun e w' => e = .returned (.pointer (some ⟨w.heap.size, 0, none⟩)) ∧ Cux zs len (0, hAll zs len len) C cap w.heap.size w w') := fun C cap w hc => newX_calls zs C len cap w hc
  have bitsH : Hid (∀ C cap w w1, Cux zs len (0, hAll zs len len) C cap w.heap.size w w1 → Calls Tryd.prog 21 #[.pointer (some ⟨w.heap.size, 0, none⟩)] w1 fun e w' => e = .returned (.int .i64 x1) ∧ Cux zs len st2 C cap w.heap.size w w') := fun C cap w w1 hc => (H1 C cap _ w w1 hc).mono fun e w' ⟨a, b, c⟩ => ⟨a, b⟩
  have showH : Hid (∀ C cap w w1, Cux zs len st2 C cap w.heap.size w w1 → Calls Tryd.prog 9 #[.int .i64 x1] w1 fun e w' => e = .returned (.string (mkS (showL x1))) ∧ Cux zs len st2 C cap w.heap.size w w') := fun C cap w w1 hc => (specShow_calls x1 w1).mono fun e w' ⟨a, hb⟩ => ⟨a, hc.later hb⟩
  generalize mkS (showL x1) = S at *
  generalize (0, hAll zs len len) = st1 at *
  have hcase : x2 = 0 ∨ x2 = 1 ∨ x2 = 2 ∨ x2 = 3 ∨ 4 ≤ x2 := by omega
  clear H1
  rcases hcase with rfl | rfl | rfl | rfl | h4
  · refine ⟨S ++ ⟨#[48]⟩, by rw [ByteArray.size_append]; exact Nat.le_trans (Nat.add_le_add_right hsz _) (by decide), fun C cap w hc => ?_⟩
    have sel : Hid (∀ w1, Cux zs len st2 C cap w.heap.size w w1 → Calls Tryd.prog 24 #[.pointer (some ⟨w.heap.size, 0, none⟩), .int .i64 12] w1 fun e w' => e = .returned (.int .i64 0) ∧ Below w.heap.size w w') := fun w1 hc => (H2 C cap _ w w1 hc).mono fun e w' ⟨a, b, c⟩ => ⟨a, b.bel⟩
    have newI := newH.out C cap w hc
    have newJ : Hid (Calls Tryd.prog 20 #[.slice C len cap] w fun e w' => e = .returned (.pointer (some ⟨w.heap.size, 0, none⟩)) ∧ Cux zs len st1 C cap w.heap.size w w') := newI
    clear hc newI newH H2
    go_enter Tryd.func11, Tryd.ntmps11
    go_wp2_with (first
      | (go_at_call 20; refine newJ.out.mono ?_; rintro e w1 ⟨rfl, hc1⟩)
      | (go_at_call 21; refine (bitsH.out C cap w _ (by assumption)).mono ?_; rintro e w2 ⟨rfl, hc2⟩)
      | (go_at_call 9; refine (showH.out C cap w _ (by assumption)).mono ?_; rintro e w3 ⟨rfl, hc3⟩)
      | (go_at_call 24; refine (sel.out _ (by assumption)).mono ?_; rintro e w4 ⟨rfl, hb4⟩))
    go_ret
    exact ⟨rfl, hb4⟩
  · refine ⟨⟨#[48]⟩ ++ S, by rw [ByteArray.size_append]; exact Nat.le_trans (Nat.add_le_add_left hsz _) (by decide), fun C cap w hc => ?_⟩
    have sel : Hid (∀ w1, Cux zs len st2 C cap w.heap.size w w1 → Calls Tryd.prog 24 #[.pointer (some ⟨w.heap.size, 0, none⟩), .int .i64 12] w1 fun e w' => e = .returned (.int .i64 1) ∧ Below w.heap.size w w') := fun w1 hc => (H2 C cap _ w w1 hc).mono fun e w' ⟨a, b, c⟩ => ⟨a, b.bel⟩
    have newI := newH.out C cap w hc
    have newJ : Hid (Calls Tryd.prog 20 #[.slice C len cap] w fun e w' => e = .returned (.pointer (some ⟨w.heap.size, 0, none⟩)) ∧ Cux zs len st1 C cap w.heap.size w w') := newI
    clear hc newI newH H2
    go_enter Tryd.func11, Tryd.ntmps11
    go_wp2_with (first
      | (go_at_call 20; refine newJ.out.mono ?_; rintro e w1 ⟨rfl, hc1⟩)
      | (go_at_call 21; refine (bitsH.out C cap w _ (by assumption)).mono ?_; rintro e w2 ⟨rfl, hc2⟩)
      | (go_at_call 9; refine (showH.out C cap w _ (by assumption)).mono ?_; rintro e w3 ⟨rfl, hc3⟩)
      | (go_at_call 24; refine (sel.out _ (by assumption)).mono ?_; rintro e w4 ⟨rfl, hb4⟩))
    go_ret
    exact ⟨rfl, hb4⟩
  · refine ⟨⟨#[45]⟩ ++ S, by rw [ByteArray.size_append]; exact Nat.le_trans (Nat.add_le_add_left hsz _) (by decide), fun C cap w hc => ?_⟩
    have sel : Hid (∀ w1, Cux zs len st2 C cap w.heap.size w w1 → Calls Tryd.prog 24 #[.pointer (some ⟨w.heap.size, 0, none⟩), .int .i64 12] w1 fun e w' => e = .returned (.int .i64 2) ∧ Below w.heap.size w w') := fun w1 hc => (H2 C cap _ w w1 hc).mono fun e w' ⟨a, b, c⟩ => ⟨a, b.bel⟩
    have newI := newH.out C cap w hc
    have newJ : Hid (Calls Tryd.prog 20 #[.slice C len cap] w fun e w' => e = .returned (.pointer (some ⟨w.heap.size, 0, none⟩)) ∧ Cux zs len st1 C cap w.heap.size w w') := newI
    clear hc newI newH H2
    go_enter Tryd.func11, Tryd.ntmps11
    go_wp2_with (first
      | (go_at_call 20; refine newJ.out.mono ?_; rintro e w1 ⟨rfl, hc1⟩)
      | (go_at_call 21; refine (bitsH.out C cap w _ (by assumption)).mono ?_; rintro e w2 ⟨rfl, hc2⟩)
      | (go_at_call 9; refine (showH.out C cap w _ (by assumption)).mono ?_; rintro e w3 ⟨rfl, hc3⟩)
      | (go_at_call 24; refine (sel.out _ (by assumption)).mono ?_; rintro e w4 ⟨rfl, hb4⟩))
    go_ret
    exact ⟨rfl, hb4⟩
  · obtain ⟨r, st4, hr0, hr1, H3⟩ := below_det 9 (by decide) zs len st3
    obtain ⟨v, hv, hcell⟩ := nineX ⟨#[]⟩ ⟨#[112]⟩ ⟨#[51, 112]⟩ ⟨#[50, 112, 48]⟩ ⟨#[49, 112, 53, 48, 48, 48]⟩ ⟨#[45, 110, 97, 110]⟩ ⟨#[57, 48, 48, 55, 49, 57, 57, 50, 53, 52, 55, 52, 48, 57, 57, 51, 112, 48]⟩ ⟨#[49, 112, 49, 48, 50, 52]⟩ ⟨#[49, 112, 45, 49, 48, 55, 53]⟩ 9 1000 (by rintro v (rfl | rfl | rfl | rfl | rfl | rfl | rfl | rfl | rfl) <;> decide) r hr0 hr1
    refine ⟨v, hv, fun C cap w hc => ?_⟩
    have sel : Hid (∀ w1, Cux zs len st2 C cap w.heap.size w w1 → Calls Tryd.prog 24 #[.pointer (some ⟨w.heap.size, 0, none⟩), .int .i64 12] w1 fun e w' => e = .returned (.int .i64 3) ∧ Cux zs len st3 C cap w.heap.size w w') := fun w1 hc => (H2 C cap _ w w1 hc).mono fun e w' ⟨a, b, c⟩ => ⟨a, b⟩
    have tabH : Hid (∀ w1, Cux zs len st3 C cap w.heap.size w w1 → Calls Tryd.prog 24 #[.pointer (some ⟨w.heap.size, 0, none⟩), .int .i64 9] (w1.alloc (.cells #[.string ⟨#[]⟩, .string ⟨#[112]⟩, .string ⟨#[51, 112]⟩, .string ⟨#[50, 112, 48]⟩, .string ⟨#[49, 112, 53, 48, 48, 48]⟩, .string ⟨#[45, 110, 97, 110]⟩, .string ⟨#[57, 48, 48, 55, 49, 57, 57, 50, 53, 52, 55, 52, 48, 57, 57, 51, 112, 48]⟩, .string ⟨#[49, 112, 49, 48, 50, 52]⟩, .string ⟨#[49, 112, 45, 49, 48, 55, 53]⟩] 9)) fun e w' => e = .returned (.int .i64 r) ∧ Below w.heap.size w w' ∧ w'.cell? ⟨w1.heap.size, r.toNat, none⟩ = some (.string v)) := fun w1 hc => (H3 C cap _ w _ (hc.alloc _)).mono fun e w' ⟨a, b, c⟩ => ⟨a, b.bel, hcell _ _ _ c hc.lt⟩
    have newI := newH.out C cap w hc
    have newJ : Hid (Calls Tryd.prog 20 #[.slice C len cap] w fun e w' => e = .returned (.pointer (some ⟨w.heap.size, 0, none⟩)) ∧ Cux zs len st1 C cap w.heap.size w w') := newI
    clear hc newI newH H2 H3 hcell hv
    go_enter Tryd.func11, Tryd.ntmps11
    go_wp2_with (first
      | (go_at_call 20; refine newJ.out.mono ?_; rintro e w1 ⟨rfl, hc1⟩)
      | (go_at_call 21; refine (bitsH.out C cap w _ (by assumption)).mono ?_; rintro e w2 ⟨rfl, hc2⟩)
      | (go_at_call 9; refine (showH.out C cap w _ (by assumption)).mono ?_; rintro e w3 ⟨rfl, hc3⟩)
      | (go_at_call 24; fail))
    refine (sel.out _ (by assumption)).mono ?_
    rintro e w4 ⟨rfl, hc4⟩
    go_wp2_with (go_at_call 24; fail)
    refine (tabH.out _ hc4).mono ?_
    rintro e w5 ⟨rfl, hb5, hcc⟩
    go_wp2
    go_ret
    exact ⟨rfl, hb5⟩
  · refine ⟨S, by omega, fun C cap w hc => ?_⟩
    have sel : Hid (∀ w1, Cux zs len st2 C cap w.heap.size w w1 → Calls Tryd.prog 24 #[.pointer (some ⟨w.heap.size, 0, none⟩), .int .i64 12] w1 fun e w' => e = .returned (.int .i64 x2) ∧ Below w.heap.size w w') := fun w1 hc => (H2 C cap _ w w1 hc).mono fun e w' ⟨a, b, c⟩ => ⟨a, b.bel⟩
    have newI := newH.out C cap w hc
    have newJ : Hid (Calls Tryd.prog 20 #[.slice C len cap] w fun e w' => e = .returned (.pointer (some ⟨w.heap.size, 0, none⟩)) ∧ Cux zs len st1 C cap w.heap.size w w') := newI
    clear hc newI newH H2
    go_enter Tryd.func11, Tryd.ntmps11
    go_wp2_with (first
      | (go_at_call 20; refine newJ.out.mono ?_; rintro e w1 ⟨rfl, hc1⟩)
      | (go_at_call 21; refine (bitsH.out C cap w _ (by assumption)).mono ?_; rintro e w2 ⟨rfl, hc2⟩)
      | (go_at_call 9; refine (showH.out C cap w _ (by assumption)).mono ?_; rintro e w3 ⟨rfl, hc3⟩)
      | (go_at_call 24; refine (sel.out _ (by assumption)).mono ?_; rintro e w4 ⟨rfl, hb4⟩))
    go_ret
    exact ⟨rfl, hb4⟩
end Go.Proofs.YtjbknbinaegpkaaDoor
