/- Shapes as lists of bytes; ShapeOk on both sides: what each answers at any text of at most 2^20 bytes. -/
import Derived.Test.YtkkfkbcdcdifdaaGreatDoorShNum
import Derived.Test.YtkkfkbcdcdifdaaGreatDoorType2
import Derived.Test.YtkkfkbcdcdifdaaGreatDoorShShelf
import Derived.Lib.AtoiErrMem
import Derived.Lib.LaidTab
namespace Go.Proofs.YtkkfkbcdcdifdaaGreatDoor.Sh
set_option linter.unusedVariables false
open Go.ChangeShapes Go.WideShapes Go.ChangeAt Go.RowKit

def shapeL (l : List UInt8) : Bool := l == [48] || l == [45] || l == [33, 33] || typeL l || (match l with | 33 :: d => shapeNum d | _ => false)
theorem shapeL_bang (d : List UInt8) (h2 : (33 :: d : List UInt8) ≠ [33, 33]) (ht : typeL (33 :: d) = false) : shapeL (33 :: d) = shapeNum d := by
  have : ((33 :: d : List UInt8) == [33, 33]) = false := by simpa using h2
  simp [shapeL, this, ht]
theorem shapeL_other {l : List UInt8} (h1 : (l == [48]) = false) (h2 : (l == [45]) = false) (h3 : (l == [33, 33]) = false) (h4 : ∀ d, l ≠ 33 :: d) : shapeL l = typeL l := by
  unfold shapeL
  rw [h1, h2, h3]
  split
  · rename_i d; exact absurd rfl (h4 d)
  · simp
theorem head33 {l : List UInt8} (hl : 0 < l.length) (h : (l[0].toNat : Int) = 33) : ∃ t, l = 33 :: t := by
  cases l with
  | nil => simp at hl
  | cons b r =>
    refine ⟨r, congrArg (· :: r) (UInt8.toNat_inj.1 ?_)⟩
    simp only [List.getElem_cons_zero] at h
    simp only [UInt8.reduceToNat]; omega

set_option maxRecDepth 1000000 in
set_option maxHeartbeats 4000000 in
theorem specShape_calls (s : ByteArray) (w : World) (hs : s.size ≤ 1048576) : Calls Tryz.prog 113 #[.string s] w fun e w' => e = .returned (.bool (shapeL s.data.toList)) ∧ Below w.heap.size w w' := by
  have hlen := toList_size s
  have typeH : Hid (∀ w, Calls Tryz.prog 87 #[.string s] w fun e w' => e = .returned (.bool (typeL s.data.toList)) ∧ w' = w) := fun w => specType_calls s w (by omega)
  by_cases h1 : s.data.toList = [48]
  · have e1 : (s.toList == [48]) = true := by rw [ByteArray.toList_eq, h1]; rfl
    have hr : shapeL s.data.toList = true := by rw [h1]; rfl
    clear h1
    go_enter Tryz.func113, Tryz.ntmps113
    go_wp2_with (first | (go_at_call 87; refine (typeH.out _).mono ?_; rintro e w ⟨rfl, he⟩; subst he))
    all_goals (go_ret; exact ⟨by first | rfl | (rw [hr]; rfl), Below.refl _ _⟩)
  by_cases h2 : s.data.toList = [45]
  · have e1 : (s.toList == [48]) = false := by rw [ByteArray.toList_eq, h2]; rfl
    have e2 : (s.toList == [45]) = true := by rw [ByteArray.toList_eq, h2]; rfl
    have hr : shapeL s.data.toList = true := by rw [h2]; rfl
    clear h1 h2
    go_enter Tryz.func113, Tryz.ntmps113
    go_wp2_with (first | (go_at_call 87; refine (typeH.out _).mono ?_; rintro e w ⟨rfl, he⟩; subst he))
    all_goals (go_ret; exact ⟨by first | rfl | (rw [hr]; rfl), Below.refl _ _⟩)
  by_cases h3 : s.data.toList = [33, 33]
  · have e1 : (s.toList == [48]) = false := by rw [ByteArray.toList_eq, h3]; rfl
    have e2 : (s.toList == [45]) = false := by rw [ByteArray.toList_eq, h3]; rfl
    have e3 : (s.toList == [33, 33]) = true := by rw [ByteArray.toList_eq, h3]; rfl
    have hr : shapeL s.data.toList = true := by rw [h3]; rfl
    clear h1 h2 h3
    go_enter Tryz.func113, Tryz.ntmps113
    go_wp2_with (first | (go_at_call 87; refine (typeH.out _).mono ?_; rintro e w ⟨rfl, he⟩; subst he))
    all_goals (go_ret; exact ⟨by first | rfl | (rw [hr]; rfl), Below.refl _ _⟩)
  have e1 : (s.toList == [48]) = false := by rw [ByteArray.toList_eq]; simpa using h1
  have e2 : (s.toList == [45]) = false := by rw [ByteArray.toList_eq]; simpa using h2
  have e3 : (s.toList == [33, 33]) = false := by rw [ByteArray.toList_eq]; simpa using h3
  have l1 : (s.data.toList == [48]) = false := by simpa using h1
  have l2 : (s.data.toList == [45]) = false := by simpa using h2
  have l3 : (s.data.toList == [33, 33]) = false := by simpa using h3
  cases ht : typeL s.data.toList with
  | true =>
    have hr : shapeL s.data.toList = true := by unfold shapeL; rw [ht]; simp
    clear h1 h2 h3 l1 l2 l3
    go_enter Tryz.func113, Tryz.ntmps113
    go_wp2_with (first | (go_at_call 87; refine (typeH.out _).mono ?_; rintro e w ⟨rfl, he⟩; subst he))
    all_goals (go_ret; exact ⟨by first | rfl | (rw [hr]; rfl), Below.refl _ _⟩)
  | false =>
    by_cases hb : ∃ d, s.data.toList = 33 :: d
    · obtain ⟨d, hd⟩ := hb
      have hr : shapeL s.data.toList = shapeNum d := by
        rw [hd] at ht h3 ⊢; exact shapeL_bang d h3 ht
      by_cases hd0 : d = []
      · subst hd0
        have hsz : (s.size : Int) < 2 := by rw [← hlen, hd]; simp
        rw [shapeNum_nil] at hr
        clear h1 h2 h3 l1 l2 l3 hd
        go_enter Tryz.func113, Tryz.ntmps113
        go_wp2_with (first | (go_at_call 87; refine (typeH.out _).mono ?_; rintro e w ⟨rfl, he⟩; subst he))
        all_goals (go_ret; exact ⟨by first | rfl | (rw [hr]; rfl), Below.refl _ _⟩)
      · have hdl : 1 ≤ d.length := by
          rcases Nat.eq_zero_or_pos d.length with h | h
          · exact absurd (List.eq_nil_of_length_eq_zero h) hd0
          · exact h
        have hsz1 : s.size = d.length + 1 := by rw [← hlen, hd]; simp
        have hsz : ¬ (s.size : Int) < 2 := by omega
        have hz : 0 < s.size := by omega
        have e4 : (((s[0]'hz).toNat : Int) != 33) = false := by rw [get_toList s 0 hz]; simp [hd]
        have hx : (1 : Int) ≤ s.size := by omega
        obtain ⟨D, hD⟩ : ∃ D, s.extract 1 s.size = D := ⟨_, rfl⟩
        have hDl : D.data.toList = d := by rw [← hD, extract_from, hd]; rfl
        have readH : Hid (∀ w, Calls Tryz.prog 136 #[.string D] w (ReadPost d w)) := fun w => by
          rw [← hDl]; exact readInt_calls D w (by rw [← hD, ByteArray.size_extract]; omega)
        have fin : ∀ (nv : Int) (b : Bool), ((nv = rd d 0 0 ∧ b = (Lib.decDigits (rd d 0 0) == d)) ∨ (nv < 0 ∧ ∃ t, d = 45 :: t)) → (b && decide (0 ≤ nv) && decide (nv < 400)) = shapeNum d := by
          rintro nv b (⟨rfl, rfl⟩ | ⟨hneg, t, rfl⟩)
          · rw [← shapeNum_read]
            have a1 : decide ((0 : Int) ≤ (rd d 0 0 : Nat)) = true := by simp
            have a2 : decide (((rd d 0 0 : Nat) : Int) < 400) = decide (rd d 0 0 < 400) := decide_eq_decide.2 (by omega)
            rw [a1, a2, Bool.and_true, Bool.and_comm]
          · rw [shapeNum_minus]; simp; intro _; omega
        have finH : Hid (∀ (nv : Int) (b : Bool), ((nv = rd d 0 0 ∧ b = (Lib.decDigits (rd d 0 0) == d)) ∨ (nv < 0 ∧ ∃ t, d = 45 :: t)) → (b && decide (0 ≤ nv) && decide (nv < 400)) = shapeNum d) := fin
        clear h1 h2 h3 l1 l2 l3 hd hDl fin hd0 hdl hsz1
        go_enter Tryz.func113, Tryz.ntmps113
        go_wp2_with (first
          | (go_at_call 87; refine (typeH.out _).mono ?_; rintro e w ⟨rfl, he⟩; subst he)
          | (go_at_call 136; refine (readH.out _).mono ?_; rintro e w1 ⟨nv, b, rfl, hb1, hcase⟩; have hf := finH.out nv b hcase; clear hcase finH))
        all_goals (
          go_ret
          refine ⟨?_, hb1⟩
          try rw [hr]
          rw [← hf]
          go_light
          clear hf hr typeH readH e1 e2 e3 e4 ht hD hx
          rcases Int.lt_or_le nv 0 with hneg | hpos
          · have hdn : decide (0 ≤ nv) = false := decide_eq_false (by omega)
            first | (exfalso; omega) | simp [hdn]
          · have hdn : decide (0 ≤ nv) = true := decide_eq_true hpos
            first | (exfalso; omega) | (simp [hdn]; done) | (simp_all; done))
    · have hr : shapeL s.data.toList = false := by rw [shapeL_other l1 l2 l3 (fun d h => hb ⟨d, h⟩), ht]
      by_cases hz : 2 ≤ s.size
      · have hsz : ¬ (s.size : Int) < 2 := by omega
        have hz0 : 0 < s.size := by omega
        have e4 : (((s[0]'hz0).toNat : Int) != 33) = true := by
          rw [bne_iff_ne]; intro h
          rw [get_toList s 0 hz0] at h
          exact hb (head33 (by rw [hlen]; exact hz0) h)
        clear h1 h2 h3 l1 l2 l3 hb
        go_enter Tryz.func113, Tryz.ntmps113
        go_wp2_with (first | (go_at_call 87; refine (typeH.out _).mono ?_; rintro e w ⟨rfl, he⟩; subst he))
        all_goals (go_ret; exact ⟨by first | rfl | (rw [hr]; rfl), Below.refl _ _⟩)
      · have hsz : (s.size : Int) < 2 := by omega
        clear h1 h2 h3 l1 l2 l3 hb
        go_enter Tryz.func113, Tryz.ntmps113
        go_wp2_with (first | (go_at_call 87; refine (typeH.out _).mono ?_; rintro e w ⟨rfl, he⟩; subst he))
        all_goals (go_ret; exact ⟨by first | rfl | (rw [hr]; rfl), Below.refl _ _⟩)

/-- What the walk needs of the library's variables: two errors, a table. -/
structure Env (W : World) : Prop where
  syn : ∃ te pe, W.cell? ⟨4, 0, none⟩ = some (.iface te pe)
  rng : ∃ te pe, W.cell? ⟨5, 0, none⟩ = some (.iface te pe)
  tab : Lib.TabIs Tryz.prog W "internal/strconv.uint64pow10" .u64 Lib.pow10Tab
  size : 7 ≤ W.heap.size
theorem gPow : ∃ g, Tryz.prog.globalNamed "internal/strconv.uint64pow10" = some g ∧ g < 7 := ⟨6, by kernel_rfl, by decide⟩
theorem Env.kept {W W' : World} (h : Env W) (hb : Below W.heap.size W W') : Env W' := by
  have h8 := h.size
  obtain ⟨g, hg, hlt⟩ := gPow
  refine ⟨?_, ?_, ?_, Nat.le_trans h8 hb.size⟩
  · rw [hb.cell (p := ⟨4, 0, none⟩) (show 4 < _ by omega)]; exact h.syn
  · rw [hb.cell (p := ⟨5, 0, none⟩) (show 5 < _ by omega)]; exact h.rng
  · have := h.tab
    unfold Lib.TabIs World.var? at this ⊢
    rw [hg] at this ⊢
    simp only [Option.bind_some] at this ⊢
    rw [hb.block g (by omega)]; exact this

/-- strconv.ParseInt(s, 10, 64), whatever the text. -/
def ParsePost (l : List UInt8) (w : World) (e : Ending) (w' : World) : Prop :=
  Below w.heap.size w w' ∧ ((∃ v, Lib.parseIntB 64 l = .ok v ∧ e = .returned (.tuple #[.int .i64 v, .nilIface])) ∨ ((∀ v, Lib.parseIntB 64 l ≠ .ok v) ∧ ∃ x p, e = .returned (.tuple #[.int .i64 x, .iface 209 p])))
theorem parse_calls (s : ByteArray) (w : World) (hs : s.size ≤ 1048576) (he : Env w) : Calls Tryz.prog 166 #[.string s, .int .i64 10, .int .i64 64] w (ParsePost s.data.toList w) := by
  cases h : Lib.parseIntB 64 s.data.toList with
  | ok v =>
    refine (Tryz.strconv_ParseInt_10_at64_ok s (by omega) v h w).mono ?_
    rintro e w' ⟨rfl, rfl | ⟨t, rfl⟩⟩
    · exact ⟨Below.refl _ _, .inl ⟨v, h, rfl⟩⟩
    · exact ⟨Lib.bytesWorld_below _ _ _, .inl ⟨v, h, rfl⟩⟩
  | «syntax» =>
    obtain ⟨te, pe, hc⟩ := he.syn
    refine (Tryz.strconv_ParseInt_10_at64_syntax s (by omega) h _ w hc (.inr ⟨te, pe, rfl⟩)).mono ?_
    rintro e w' ⟨N, rfl, _, _, hb⟩
    exact ⟨hb, .inr ⟨(fun v hv => by rw [h] at hv; cases hv), _, _, rfl⟩⟩
  | range =>
    obtain ⟨te, pe, hc⟩ := he.rng
    refine (Tryz.strconv_ParseInt_10_at64_range s (by omega) h _ w hc (.inr ⟨te, pe, rfl⟩)).mono ?_
    rintro e w' ⟨N, rfl, _, _, hb⟩
    exact ⟨hb, .inr ⟨(fun v hv => by rw [h] at hv; cases hv), _, _, rfl⟩⟩
theorem within_calls (n m : Int) (w : World) : Calls Tryz.prog 124 #[.int .i64 n, .int .i64 m] w fun e w' => e = .returned (.bool (decide (0 ≤ n) && decide (n < m))) ∧ w' = w := by
  go_enter Tryz.func124, Tryz.ntmps124
  go_wp2
  all_goals (go_ret; refine ⟨?_, rfl⟩; first | (simp_all; done) | (simp_all; intro _; omega))
theorem format_calls (n : Int) (w : World) (h0 : 0 ≤ n) (h1 : n < 400) (he : Env w) : Calls Tryz.prog 167 #[.int .i64 n, .int .i64 10] w fun e w' => e = .returned (.string (mkS (Lib.itoa n))) ∧ Below w.heap.size w w' := by
  refine (Tryz.strconv_FormatInt_10 n (by omega) (by omega) w he.tab).mono ?_
  rintro e w' ⟨rfl, k, os, rfl⟩
  refine ⟨rfl, rfl, rfl, rfl, ?_, fun j hj => ?_⟩
  · show w.heap.size ≤ (w.heap ++ os).size
    simp
  · show (w.heap ++ os)[j]? = w.heap[j]?
    rw [Array.getElem?_append_left hj]

def madeL (l : List UInt8) : Bool := match l with | 33 :: d => shapeNum d | _ => false
theorem prefix33_yes (t : List UInt8) : Lib.hasPrefix (33 :: t) [33] = true := by simp [Lib.hasPrefix]
theorem prefix33_no {l : List UInt8} (h : ∀ r, l ≠ 33 :: r) : Lib.hasPrefix l [33] = false := by
  cases l with
  | nil => rfl
  | cons b r =>
    have : b ≠ 33 := fun e => h r (by rw [e])
    simp [Lib.hasPrefix, List.isPrefixOf, Ne.symm this]

set_option maxRecDepth 1000000 in
set_option maxHeartbeats 4000000 in
theorem madeAt_calls (s : ByteArray) (w : World) (hs : s.size ≤ 1048576) (he : Env w) : Calls Tryz.prog 148 #[.string s] w fun e w' => ∃ x, e = .returned (.tuple #[.int .i64 x, .bool (madeL s.data.toList)]) ∧ Below w.heap.size w w' := by
  have hlen := toList_size s
  have heH : Hid (Env w) := he
  clear he
  by_cases hb : ∃ d, s.data.toList = 33 :: d
  · obtain ⟨d, hd⟩ := hb
    obtain ⟨D, hD⟩ : ∃ D, D = mkS d := ⟨_, rfl⟩
    have hDs : D.size ≤ 1048576 := by
      rw [hD, ← toList_size, mkS_list]
      rw [hd] at hlen; simp at hlen; omega
    have hr : Hid (madeL s.data.toList = shapeNum d) := by show _ = _; rw [hd]; rfl
    have openH : Hid (∀ w, Calls Tryz.prog 115 #[.string s, .string ⟨#[33]⟩] w fun e w' => e = .returned (.tuple #[.string D, .bool true]) ∧ w' = w) := fun w => by
      refine (Tryz.strings_CutPrefix s ⟨#[33]⟩ w).mono ?_
      rintro e w' ⟨rfl, rfl⟩
      refine ⟨?_, rfl⟩
      rw [hd, hD, Lib.trimPrefix, prefix33_yes]
      rfl
    have hDl : D.data.toList = d := by rw [hD]; rfl
    have parseH : Hid (Calls Tryz.prog 166 #[.string D, .int .i64 10, .int .i64 64] w (ParsePost d w)) := by
      rw [← hDl]; exact parse_calls D w hDs heH.out
    have hDt : D.toList = d := by rw [ByteArray.toList_eq, hDl]
    clear hd hD hDl hDs
    go_enter Tryz.func148, Tryz.ntmps148
    go_wp2_with (first
      | (go_at_call 115; refine (openH.out _).mono ?_; rintro e w ⟨rfl, he⟩; subst he)
      | (go_at_call 166; refine parseH.out.mono ?_))
    rintro e w1 ⟨hb1, ⟨v, hp, rfl⟩ | ⟨hbad, x, p, rfl⟩⟩
    · have hnum := shapeNum_parse hp
      by_cases hin : 0 ≤ v ∧ v < 400
      · have hwi : (decide (0 ≤ v) && decide (v < 400)) = true := by simp [hin.1, hin.2]
        rw [hwi, Bool.true_and] at hnum
        have formH : Hid (Calls Tryz.prog 167 #[.int .i64 v, .int .i64 10] w1 fun e w' => e = .returned (.string (mkS (Lib.itoa v))) ∧ Below w1.heap.size w1 w') := format_calls v w1 hin.1 hin.2 (heH.out.kept hb1)
        have withH : Hid (∀ w, Calls Tryz.prog 124 #[.int .i64 v, .int .i64 400] w fun e w' => e = .returned (.bool true) ∧ w' = w) := fun w => by rw [← hwi]; exact within_calls v 400 w
        have hcmp : ((mkS (Lib.itoa v)).toList == D.toList) = shapeNum d := by
          rw [← hnum, hDt, ByteArray.toList_eq, mkS_list]
        clear hwi hp hnum hDt
        cases hsn : shapeNum d with
        | true =>
          rw [hsn] at hcmp hr
          go_wp2_with (first
            | (go_at_call 124; refine (withH.out _).mono ?_; rintro e w1 ⟨rfl, he⟩; subst he)
            | (go_at_call 167; refine formH.out.mono ?_; rintro e w2 ⟨rfl, hb2⟩))
          go_ret2
          exact ⟨_, by rw [hr.out]; rfl, hb1.trans (hb2.mono hb1.size)⟩
        | false =>
          rw [hsn] at hcmp hr
          go_wp2_with (first
            | (go_at_call 124; refine (withH.out _).mono ?_; rintro e w1 ⟨rfl, he⟩; subst he)
            | (go_at_call 167; refine formH.out.mono ?_; rintro e w2 ⟨rfl, hb2⟩))
          go_ret2
          exact ⟨_, by rw [hr.out]; rfl, hb1.trans (hb2.mono hb1.size)⟩
      · have hwi : (decide (0 ≤ v) && decide (v < 400)) = false := by
          cases h1 : decide (0 ≤ v) with
          | false => rfl
          | true =>
            have := of_decide_eq_true h1
            simp; omega
        rw [hwi, Bool.false_and] at hnum
        have withH : Hid (∀ w, Calls Tryz.prog 124 #[.int .i64 v, .int .i64 400] w fun e w' => e = .returned (.bool false) ∧ w' = w) := fun w => by rw [← hwi]; exact within_calls v 400 w
        rw [← hnum] at hr
        clear hwi hp hnum hDt hin
        go_wp2_with (first
          | (go_at_call 124; refine (withH.out _).mono ?_; rintro e w1 ⟨rfl, he⟩; subst he))
        go_ret2
        exact ⟨_, by rw [hr.out]; rfl, hb1⟩
    · have hnum := shapeNum_bad hbad
      rw [hnum] at hr
      clear hbad hnum
      go_wp2
      go_ret2
      exact ⟨_, by rw [hr.out]; rfl, hb1⟩
  · have hr : Hid (madeL s.data.toList = false) := by
      show _ = _
      unfold madeL; split
      · rename_i d h; exact absurd ⟨d, h⟩ hb
      · rfl
    have openH : Hid (∀ w, Calls Tryz.prog 115 #[.string s, .string ⟨#[33]⟩] w fun e w' => e = .returned (.tuple #[.string s, .bool false]) ∧ w' = w) := fun w => by
      refine (Tryz.strings_CutPrefix s ⟨#[33]⟩ w).mono ?_
      rintro e w' ⟨rfl, rfl⟩
      refine ⟨?_, rfl⟩
      rw [Lib.trimPrefix]
      rw [show Lib.hasPrefix s.data.toList (ByteArray.mk #[33]).data.toList = false from prefix33_no (fun t h => hb ⟨t, h⟩)]
      rfl
    have parseH : Hid (Calls Tryz.prog 166 #[.string s, .int .i64 10, .int .i64 64] w (ParsePost s.data.toList w)) := parse_calls s w hs heH.out
    clear hb
    go_enter Tryz.func148, Tryz.ntmps148
    go_wp2_with (first
      | (go_at_call 115; refine (openH.out _).mono ?_; rintro e w ⟨rfl, he⟩; subst he)
      | (go_at_call 166; refine parseH.out.mono ?_))
    rintro e w1 ⟨hb1, ⟨v, hp, rfl⟩ | ⟨hbad, x, p, rfl⟩⟩
    · clear hp
      go_wp2
      go_ret2
      exact ⟨_, by rw [hr.out]; rfl, hb1⟩
    · clear hbad
      go_wp2
      go_ret2
      exact ⟨_, by rw [hr.out]; rfl, hb1⟩

theorem shapeL_made (l : List UInt8) : shapeL l = (l == [48] || l == [45] || l == [33, 33] || madeL l || typeL l) := by
  unfold shapeL madeL
  cases (l == [48] || l == [45] || l == [33, 33]) <;> simp [Bool.or_comm]

set_option maxRecDepth 1000000 in
set_option maxHeartbeats 4000000 in
theorem implShape_calls (s : ByteArray) (w : World) (hs : s.size ≤ 1048576) (he : Env w) : Calls Tryz.prog 125 #[.string s] w fun e w' => e = .returned (.bool (shapeL s.data.toList)) ∧ Below w.heap.size w w' := by
  have hsl := shapeL_made s.data.toList
  have typeH : Hid (∀ w, Calls Tryz.prog 117 #[.string s] w fun e w' => e = .returned (.bool (typeL s.data.toList)) ∧ Below w.heap.size w w') := fun w => implType_calls s w (by omega)
  have madeH : Hid (Calls Tryz.prog 148 #[.string s] w fun e w' => ∃ x, e = .returned (.tuple #[.int .i64 x, .bool (madeL s.data.toList)]) ∧ Below w.heap.size w w') := madeAt_calls s w hs he
  have hsH : Hid (shapeL s.data.toList = (s.toList == [48] || s.toList == [45] || s.toList == [33, 33] || madeL s.data.toList || typeL s.data.toList)) := by
    show _ = _; rw [hsl, ByteArray.toList_eq]
  clear he hsl
  generalize shapeL s.data.toList = r at *
  generalize madeL s.data.toList = md at *
  generalize typeL s.data.toList = ty at *
  cases e1 : (s.toList == [48]) with
  | true =>
    have hr : r = true := by rw [hsH.out, e1]; simp
    go_enter Tryz.func125, Tryz.ntmps125
    go_wp2
    all_goals (go_ret; exact ⟨by first | rfl | (rw [hr]; rfl), Below.refl _ _⟩)
  | false =>
    cases e2 : (s.toList == [45]) with
    | true =>
      have hr : r = true := by rw [hsH.out, e1, e2]; simp
      go_enter Tryz.func125, Tryz.ntmps125
      go_wp2
      all_goals (go_ret; exact ⟨by first | rfl | (rw [hr]; rfl), Below.refl _ _⟩)
    | false =>
      cases e3 : (s.toList == [33, 33]) with
      | true =>
        have hr : r = true := by rw [hsH.out, e1, e2, e3]; simp
        go_enter Tryz.func125, Tryz.ntmps125
        go_wp2
        all_goals (go_ret; exact ⟨by first | rfl | (rw [hr]; rfl), Below.refl _ _⟩)
      | false =>
        have hr : r = (md || ty) := by rw [hsH.out, e1, e2, e3]; simp
        clear hsH
        cases md with
        | true =>
          go_enter Tryz.func125, Tryz.ntmps125
          go_wp2_with (first
            | (go_at_call 148; refine madeH.out.mono ?_; rintro e w1 ⟨x, rfl, hb1⟩)
            | (go_at_call 117; refine (typeH.out _).mono ?_; rintro e w2 ⟨rfl, hb2⟩))
          go_ret
          exact ⟨by first | rfl | (rw [hr]; rfl), hb1⟩
        | false =>
          go_enter Tryz.func125, Tryz.ntmps125
          go_wp2_with (first
            | (go_at_call 148; refine madeH.out.mono ?_; rintro e w1 ⟨x, rfl, hb1⟩)
            | (go_at_call 117; refine (typeH.out _).mono ?_; rintro e w2 ⟨rfl, hb2⟩))
          go_ret
          exact ⟨by first | rfl | (rw [hr]; simp), hb1.trans (hb2.mono hb1.size)⟩
end Go.Proofs.YtkkfkbcdcdifdaaGreatDoor.Sh
