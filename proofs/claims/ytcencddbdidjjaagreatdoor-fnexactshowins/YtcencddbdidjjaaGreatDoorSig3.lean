/- impl.splitSig: what it answers at any text of at most 2^20 bytes, in a world that is shaped as the program's. -/
import Derived.Test.YtcencddbdidjjaaGreatDoorSig
import Derived.Test.YtcencddbdidjjaaGreatDoorShelf2
import Derived.ChangeAgain
namespace Go.Proofs.YtcencddbdidjjaaGreatDoor
set_option linter.unusedVariables false
open Go.ChangeShapes Go.WideShapes Go.ChangeAt Go.RowKit

theorem shaped_below {w w' : World} (h : w.ShapedOpen Tryz.prog) (hb : Below w.heap.size w w') : w'.ShapedOpen Tryz.prog :=
  h.keptBut (hb.frame (fun _ => False)) (fun _ f => f.elim)

theorem splitL_count : ∀ l : List UInt8, (splitL l).length = l.count 44 + 1
  | [] => rfl
  | b :: t => by
    have ih := splitL_count t
    simp only [splitL, List.count_cons]
    by_cases hb : b = 44
    · simp [hb, ih]
    · simp only [hb, if_false]
      have : (b == 44) = false := by simpa using hb
      simp only [this]
      split
      · rename_i h; exact absurd h (splitL_ne t)
      · rename_i h; rw [h] at ih; simp at ih ⊢; exact ih
theorem splitK_all : ∀ (n : Nat) (l : List UInt8), l.length ≤ n → Lib.splitK [44] 0 (Lib.count l [44]) l = splitL l ∧ Lib.count l [44] = l.count 44 := by
  intro n
  induction n with
  | zero =>
    intro l h
    obtain rfl : l = [] := List.eq_nil_of_length_eq_zero (by omega)
    exact ⟨rfl, rfl⟩
  | succ n ih =>
    intro l h
    rcases index_byte 44 l with ⟨h1, h2⟩ | ⟨p, t, h1, h2, h3⟩
    · rw [Lib.count_miss h1, splitL_end l h2]
      refine ⟨rfl, (List.count_eq_zero.2 fun hm => h2 44 hm rfl).symm⟩
    · have hc := Lib.count_hit (s := l) (sub := [44]) (i := p.length) (by simp) h3
      have hd : l.drop (p.length + ([44] : List UInt8).length) = t := by rw [h1]; simp
      rw [hd] at hc
      obtain ⟨e1, e2⟩ := ih t (by rw [h1] at h; simp at h; first | done | omega)
      have hcp : p.count 44 = 0 := List.count_eq_zero.2 fun hm => h2 44 hm rfl
      refine ⟨?_, ?_⟩
      · rw [hc, Nat.add_comm, Lib.splitK, h3, if_neg (by simp)]
        have ht : l.take ((p.length : Int).toNat + 0) = p := by rw [h1]; simp
        have hd2 : l.drop ((p.length : Int).toNat + ([44] : List UInt8).length) = t := by rw [h1]; simp
        rw [ht, hd2, e1, h1, splitL_step p t h2]
      · rw [hc, e2, h1, List.count_append, hcp, List.count_cons]; simp [Nat.add_comm]

theorem libSplit (P : ByteArray) : (Lib.splitB ⟨#[44]⟩ 0 (Lib.countB P ⟨#[44]⟩) P).map Value.string = rowS (splitL P.data.toList) ∧ Lib.countB P ⟨#[44]⟩ + 1 = (splitL P.data.toList).length := by
  obtain ⟨h1, h2⟩ := splitK_all _ P.data.toList (Nat.le_refl _)
  refine ⟨?_, by rw [splitL_count]; exact congrArg (· + 1) h2⟩
  have h3 := Lib.splitB_data ⟨#[44]⟩ 0 (Lib.countB P ⟨#[44]⟩) P
  have h4 : (Lib.splitB ⟨#[44]⟩ 0 (Lib.countB P ⟨#[44]⟩) P).map (·.data.toList) = splitL P.data.toList := h3.trans h1
  rw [← h4, rowS, List.map_map]
  rfl

/-- What strings.Split lays is a row. -/
theorem splitRow (P : ByteArray) (base : Nat) (w : World) (hb : base ≤ w.heap.size) (hP : P.size ≤ 1048576) :
    RowAt (w.alloc (.cells ((Lib.splitB ⟨#[44]⟩ 0 (Lib.countB P ⟨#[44]⟩) P).map Value.string).toArray 9)) base (splitL P.data.toList) (.slice (some ⟨w.heap.size, 0, none⟩) (splitL P.data.toList).length (splitL P.data.toList).length) w.heap.size (splitL P.data.toList).length := by
  have hl := splitL_length P.data.toList
  rw [toList_size] at hl
  have ho : (w.alloc (.cells (rowS (splitL P.data.toList)).toArray 9)).ownsRow base 9 1 (.slice (some ⟨w.heap.size, 0, none⟩) (splitL P.data.toList).length (splitL P.data.toList).length) (splitL P.data.toList).length (rowS (splitL P.data.toList)) :=
    ⟨by simp [rowS], .inr ⟨w.heap.size, _, (rowS (splitL P.data.toList)).toArray, rfl, hb, heap_alloc_last w _, Nat.le_refl _, by unfold maxLen; omega, by simp [rowS], by rw [Nat.mul_one]; exact List.take_of_length_le (by rw [rowS_length]; exact Nat.le_refl _)⟩⟩
  rw [(libSplit P).1]
  obtain ⟨g, cap, h⟩ := row_open ho (by simp)
  have e := h.eq
  simp only [Value.slice.injEq, Option.some.injEq, Addr.mk.injEq, and_true, true_and] at e
  obtain ⟨rfl, rfl⟩ := e
  exact h

theorem SigPost.nil {l : List UInt8} {w W : World} (h : sigOk l = false) (hb : Below w.heap.size w W) :
    SigPost l w (.returned (.tuple #[.slice none 0 0, .string ⟨#[]⟩, .bool false])) W := by
  refine ⟨_, by rw [h, sigRes_no h]; rfl, ?_, hb⟩
  rw [sigPars_no h]
  exact ⟨rfl, .inl ⟨rfl, rfl⟩⟩
theorem SigPost.bare {l : List UInt8} {R : ByteArray} {w W : World} (hl : l = 40 :: ([] ++ 41 :: R.data.toList)) (ho : okOf [] R.data.toList = true) (hb : Below w.heap.size w W) :
    SigPost l w (.returned (.tuple #[.slice none 0 0, .string R, .bool true])) W := by
  subst hl
  refine ⟨_, by rw [sigRes_at [] _ (by simp) ho, sig_at [] _ (by simp), ho]; rfl, ?_, hb⟩
  rw [sigPars_at [] _ (by simp) ho]
  exact ⟨rfl, .inl ⟨rfl, rfl⟩⟩
theorem SigPost.full {l I : List UInt8} {R : ByteArray} {ps : List (List UInt8)} {w w1 : World} {v : Value} {g cap : Nat} (hl : l = 40 :: (I ++ 41 :: R.data.toList)) (hp : ∀ b ∈ I, b ≠ 41) (ho : okOf I R.data.toList = true)
    (hps : ps = parsOf I) (hrow : RowAt w1 w.heap.size ps v g cap) (hb : Below w.heap.size w w1) : SigPost l w (.returned (.tuple #[v, .string R, .bool true])) w1 := by
  subst hl; subst hps
  refine ⟨v, ?_, ?_, hb⟩
  · rw [sigRes_at I _ hp ho, sig_at I _ hp, ho]; rfl
  · rw [sigPars_at I _ hp ho]; exact hrow.own

theorem prefix40_yes (t : List UInt8) : Lib.hasPrefix (40 :: t) [40] = true := by simp [Lib.hasPrefix]
theorem prefix40_no {l : List UInt8} (h : ∀ r, l ≠ 40 :: r) : Lib.hasPrefix l [40] = false := by
  cases l with
  | nil => rfl
  | cons b r =>
    have : b ≠ 40 := fun e => h r (by rw [e])
    simp [Lib.hasPrefix, List.isPrefixOf, Ne.symm this]
theorem below_drewN {B : Nat} {a w : World} (h : Below B a w) (n : Nat) : Below B a (w.drewN n) := ⟨h.os, h.tape, h.output, h.size, h.block⟩

set_option maxRecDepth 1000000 in
set_option maxHeartbeats 4000000 in
theorem implSig_calls (s : ByteArray) (w : World) (hs : s.size ≤ 1048576) (hsh : w.ShapedOpen Tryz.prog) : Calls Tryz.prog 90 #[.string s] w (SigPost s.data.toList w) := by
  have hlen := toList_size s
  have hshH : Hid (w.ShapedOpen Tryz.prog) := hsh
  clear hsh
  by_cases hhead : ∃ t, s.data.toList = 40 :: t
  · obtain ⟨t, ht⟩ := hhead
    have htl : t.length ≤ 1048576 := by rw [ht] at hlen; simp at hlen; omega
    obtain ⟨T, hT⟩ : ∃ T, T = mkS t := ⟨_, rfl⟩
    have hTs : T.size < 4294967281 := by rw [hT, ← toList_size, mkS_list]; omega
    have openH : Hid (∀ w, Calls Tryz.prog 104 #[.string s, .string ⟨#[40]⟩] w fun e w' => e = .returned (.tuple #[.string T, .bool true]) ∧ w' = w) := fun w => by
      refine (Tryz.strings_CutPrefix s ⟨#[40]⟩ w).mono ?_
      rintro e w' ⟨rfl, rfl⟩
      refine ⟨?_, rfl⟩
      rw [ht, hT, Lib.trimPrefix, prefix40_yes]
      rfl
    rcases index_byte 41 t with ⟨_, h2⟩ | ⟨p, r, h1, h2, _⟩
    · have hno : sigOk s.data.toList = false := by
        rw [ht]; simp only [sigOk]; rw [cut_none 41 t h2]; rfl
      have cutH : Hid (Calls Tryz.prog 105 #[.string T, .string ⟨#[41]⟩] w fun e w' => ∃ A, e = .returned (.tuple #[.string A, .string ⟨#[]⟩, .bool false]) ∧ Below w.heap.size w w') := by
        refine (Tryz.strings_Cut_shaped T ⟨#[41]⟩ w hshH.out hTs).mono ?_
        rintro e w' ⟨rfl, n, rfl⟩
        refine ⟨mkS t, ?_, below_drewN (Below.refl _ _) n⟩
        have : Lib.cut T.data.toList [41] = (t, [], false) := by rw [hT, mkS_list]; exact cut_none 41 t h2
        show Ending.returned (.tuple #[.string ⟨(Lib.cut T.data.toList [41]).1.toArray⟩, .string ⟨(Lib.cut T.data.toList [41]).2.1.toArray⟩, .bool (Lib.cut T.data.toList [41]).2.2]) = _
        rw [this]; rfl
      clear h2 hT ht
      go_enter Tryz.func90, Tryz.ntmps90
      go_wp2_with (first
        | (go_at_call 104; refine (openH.out _).mono ?_; rintro e w ⟨rfl, he⟩; subst he)
        | (go_at_call 105; refine cutH.out.mono ?_; rintro e w1 ⟨A, rfl, hb1⟩))
      go_ret3
      exact SigPost.nil hno hb1
    · obtain ⟨P, hP⟩ : ∃ P, P = mkS p := ⟨_, rfl⟩
      obtain ⟨R, hR⟩ : ∃ R, R = mkS r := ⟨_, rfl⟩
      have hplen : p.length + r.length + 1 = t.length := by rw [h1]; simp; omega
      have hPl : P.data.toList = p := by rw [hP]; rfl
      have hRl : R.data.toList = r := by rw [hR]; rfl
      have hPs : P.size ≤ 1048576 := by rw [← toList_size, hPl]; omega
      have hRs : R.size ≤ 9223372036854775807 := by rw [← toList_size, hRl]; omega
      have hlH : Hid (s.data.toList = 40 :: (P.data.toList ++ 41 :: R.data.toList)) := by show _ = _; rw [hPl, hRl, ht, h1]
      have hpH : Hid (∀ b ∈ P.data.toList, b ≠ 41) := by rw [hPl]; exact h2
      have cutH : Hid (Calls Tryz.prog 105 #[.string T, .string ⟨#[41]⟩] w fun e w' => e = .returned (.tuple #[.string P, .string R, .bool true]) ∧ Below w.heap.size w w') := by
        refine (Tryz.strings_Cut_shaped T ⟨#[41]⟩ w hshH.out hTs).mono ?_
        rintro e w' ⟨rfl, n, rfl⟩
        refine ⟨?_, below_drewN (Below.refl _ _) n⟩
        have : Lib.cut T.data.toList [41] = (p, r, true) := by rw [hT, mkS_list, h1]; exact cut_at 41 p r h2
        show Ending.returned (.tuple #[.string ⟨(Lib.cut T.data.toList [41]).1.toArray⟩, .string ⟨(Lib.cut T.data.toList [41]).2.1.toArray⟩, .bool (Lib.cut T.data.toList [41]).2.2]) = _
        rw [this, hP, hR]; rfl
      have typeH : Hid (∀ w, Calls Tryz.prog 61 #[.string R] w fun e w' => e = .returned (.bool (typeL R.data.toList)) ∧ Below w.heap.size w w') := fun w => implType_calls R w hRs
      clear hPl hRl hP hR h1 h2 ht hT hplen htl
      have arms : True := trivial
      clear arms
      by_cases hV : R.data.toList = [86] ∨ typeL R.data.toList = true
      · -- the result is one
        have hgood : ((R.data.toList == [86]) || typeL R.data.toList) = true := by
          rcases hV with h | h <;> simp [h]
        by_cases hP0 : P.data.toList = []
        · have e4 : (P.toList == []) = true := by rw [ByteArray.toList_eq, hP0]; rfl
          have hb0 : okOf [] R.data.toList = true := by unfold okOf; rw [hgood]; rfl
          have hl0 : s.data.toList = 40 :: ([] ++ 41 :: R.data.toList) := by rw [hlH.out, hP0]
          have hl0H : Hid (s.data.toList = 40 :: ([] ++ 41 :: R.data.toList)) := hl0
          clear hl0 hP0 hV
          cases hv : (R.toList == [86]) with
          | true =>
            go_enter Tryz.func90, Tryz.ntmps90
            go_wp2_with (first
              | (go_at_call 104; refine (openH.out _).mono ?_; rintro e w ⟨rfl, he⟩; subst he)
              | (go_at_call 105; refine cutH.out.mono ?_; rintro e w1 ⟨rfl, hb1⟩)
              | (go_at_call 61; refine (typeH.out _).mono ?_; rintro e w2 ⟨rfl, hb2⟩))
            go_ret3
            exact SigPost.bare hl0H.out hb0 hb1
          | false =>
            have ht : typeL R.data.toList = true := by rw [ByteArray.toList_eq] at hv; rw [hv] at hgood; simpa using hgood
            go_enter Tryz.func90, Tryz.ntmps90
            go_wp2_with (first
              | (go_at_call 104; refine (openH.out _).mono ?_; rintro e w ⟨rfl, he⟩; subst he)
              | (go_at_call 105; refine cutH.out.mono ?_; rintro e w1 ⟨rfl, hb1⟩)
              | (go_at_call 61; refine (typeH.out _).mono ?_; rintro e w2 ⟨rfl, hb2⟩))
            go_ret3
            exact SigPost.bare hl0H.out hb0 (hb1.trans (hb2.mono hb1.size))
        · have e4 : (P.toList == []) = false := by rw [ByteArray.toList_eq]; simpa using hP0
          have hpars : parsOf P.data.toList = splitL P.data.toList := by unfold parsOf; rw [if_neg hP0]
          obtain ⟨hcells, hcount⟩ := libSplit P
          have hcnt := splitL_count P.data.toList
          have countH : Hid (∀ w, Calls Tryz.prog 106 #[.string P, .string ⟨#[44]⟩] w fun e w' => e = .returned (.int .i64 ((P.data.toList.count 44 : Nat) : Int)) ∧ w' = w) := fun w => Tryz.strings_Count_one P 44 w
          obtain ⟨ps, hps1⟩ : ∃ ps, ps = splitL P.data.toList := ⟨_, rfl⟩
          have hps : Hid (ps = parsOf P.data.toList) := by rw [hps1, hpars]; rfl
          have hplen : Hid (∀ p ∈ ps, p.length ≤ 1048576) := by
            rw [hps1]; intro p hp
            exact Nat.le_trans (splitL_mem _ p hp) (by rw [toList_size]; exact hPs)
          have hpsb : ps.length ≤ 1048577 := by
            have := splitL_length P.data.toList
            rw [toList_size] at this
            rw [hps1]; omega
          have splitH : Hid (∀ W : World, Below w.heap.size w W → Calls Tryz.prog 107 #[.string P, .string ⟨#[44]⟩] W fun e w' => ∃ g, e = .returned (.slice (some ⟨g, 0, none⟩) ps.length ps.length) ∧ RowAt w' w.heap.size ps (.slice (some ⟨g, 0, none⟩) ps.length ps.length) g ps.length ∧ Below w.heap.size w w') := by
            intro W hW
            refine (Tryz.strings_Split_shaped P ⟨#[44]⟩ W (shaped_below hshH.out hW) (by omega) (by decide)).mono ?_
            rintro e w' ⟨rfl, rfl⟩
            refine ⟨W.heap.size, by rw [hcount, hps1], ?_, hW.alloc hW.size _⟩
            rw [hps1]
            exact splitRow P w.heap.size W hW.size hPs
          rw [← hps1] at hcnt
          clear hcells hcount hpars hP0 hps1
          have hres : Hid (ps.length ≤ 8 → okOf P.data.toList R.data.toList = ps.all typeL) := fun h => by
            unfold okOf; rw [hgood, ← hps.out]; simp [h]
          have hover : Hid (¬ ps.length ≤ 8 → sigOk s.data.toList = false) := fun h => by
            rw [hlH.out, sig_at _ _ hpH.out]; unfold okOf; rw [← hps.out]; simp [h]
          generalize P.data.toList.count 44 = c at *
          have hgoodH : Hid (((R.toList == [86]) || typeL R.data.toList) = true) := by show _ = _; rw [ByteArray.toList_eq]; exact hgood
          clear hgood hV
          by_cases h8 : (8 : Int) ≤ c
          · have hno := hover.out (by omega)
            clear hcnt
            cases hv : (R.toList == [86]) with
            | true =>
              go_enter Tryz.func90, Tryz.ntmps90
              go_wp2_with (first
                | (go_at_call 104; refine (openH.out _).mono ?_; rintro e w ⟨rfl, he⟩; subst he)
                | (go_at_call 105; refine cutH.out.mono ?_; rintro e w1 ⟨rfl, hb1⟩)
                | (go_at_call 106; refine (countH.out _).mono ?_; rintro e w' ⟨rfl, he⟩; subst he))
              go_ret3
              exact SigPost.nil hno (by assumption)
            | false =>
              have ht : typeL R.data.toList = true := by have := hgoodH.out; rw [hv] at this; simpa using this
              go_enter Tryz.func90, Tryz.ntmps90
              go_wp2_with (first
                | (go_at_call 104; refine (openH.out _).mono ?_; rintro e w ⟨rfl, he⟩; subst he)
                | (go_at_call 105; refine cutH.out.mono ?_; rintro e w1 ⟨rfl, hb1⟩)
                | (go_at_call 61; refine (typeH.out _).mono ?_; rintro e w2 ⟨rfl, hb2⟩; have hb3 := hb1.trans (hb2.mono hb1.size); clear hb1 hb2)
                | (go_at_call 106; refine (countH.out _).mono ?_; rintro e w' ⟨rfl, he⟩; subst he))
              go_ret3
              exact SigPost.nil hno (by assumption)
          · have h8n : ps.length ≤ 8 := by omega
            clear hcnt
            cases hv : (R.toList == [86]) with
            | true =>
              go_enter Tryz.func90, Tryz.ntmps90
              go_wp2_with (first
                | (go_at_call 104; refine (openH.out _).mono ?_; rintro e w ⟨rfl, he⟩; subst he)
                | (go_at_call 105; refine cutH.out.mono ?_; rintro e w1 ⟨rfl, hb3⟩)
                | (go_at_call 106; refine (countH.out _).mono ?_; rintro e w1 ⟨rfl, he⟩; subst he)
                | (go_at_call 107; refine (splitH.out _ hb3).mono ?_; rintro e w3 ⟨g, rfl, hrow, hb4⟩; clear hb3))
              go_loopw [48] (fun iv wr => ∃ i : Nat, iv = .int .i64 i ∧ i ≤ ps.length ∧ RowAt wr w.heap.size ps (.slice (some ⟨g, 0, none⟩) ps.length ps.length) g ps.length ∧ Below w.heap.size w wr ∧ Hid ((ps.take i).all typeL = true)) (fun iv _ => ps.length - (intOf iv).toNat)
              case atStart => exact ⟨0, rfl, Nat.zero_le _, hrow, hb4, rfl⟩
              case round =>
                obtain ⟨i, rfl, hi, hrw, hbw, hall⟩ := hrel
                by_cases hin : i < ps.length
                · have hin1 : (i : Int) < ps.length := by omega
                  have hin0 : (0 : Int) ≤ i := by omega
                  have hc := hrw.cell i hin
                  have hglt := hrw.lt
                  have hpl := hplen.out ps[i] (List.getElem_mem hin)
                  have hnext : Hid (typeL ps[i] = true → (ps.take (i + 1)).all typeL = true) := fun h => by
                    rw [List.take_succ_eq_append_getElem hin, List.all_append, hall.out]; simp [h]
                  have hbad : Hid (typeL ps[i] = false → sigOk s.data.toList = false) := fun h => by
                    rw [hlH.out, sig_at _ _ hpH.out, hres.out h8n, List.all_eq_false]
                    exact ⟨ps[i], List.getElem_mem hin, by simp [h]⟩
                  obtain ⟨X, hX⟩ : ∃ X, mkS ps[i] = X := ⟨_, rfl⟩
                  have hXt : Hid (typeL X.data.toList = typeL ps[i]) := by rw [← hX]; rfl
                  have hXs : X.size ≤ 9223372036854775807 := by rw [← hX, ← toList_size, mkS_list]; omega
                  rw [hX] at hc
                  generalize typeL ps[i] = tb at *
                  have hXc : Hid (∀ w, Calls Tryz.prog 61 #[.string X] w fun e w' => e = .returned (.bool tb) ∧ Below w.heap.size w w') := fun w => by rw [← hXt.out]; exact implType_calls X w hXs
                  clear hX hXt hpl
                  cases tb with
                  | true =>
                    go_wp2_with (first
                      | (go_at_call 61; refine (hXc.out _).mono ?_; rintro e w5 ⟨rfl, hb5⟩))
                    go_roundw
                    case rel => exact ⟨i + 1, by simp, by omega, row_kept hrw hb5 hglt, hbw.trans (hb5.mono hbw.size), hnext.out (by trivial)⟩
                    case measure => first | (simp [intOf]; done) | (simp [intOf]; omega)
                  | false =>
                    have hno := hbad.out rfl
                    go_wp2_with (first
                      | (go_at_call 61; refine (hXc.out _).mono ?_; rintro e w5 ⟨rfl, hb5⟩))
                    go_ret3
                    exact SigPost.nil hno (hbw.trans (hb5.mono hbw.size))
                · have hin1 : ¬ (i : Int) < ps.length := by omega
                  have hyes : okOf P.data.toList R.data.toList = true := by
                    rw [hres.out h8n]
                    have := hall.out
                    rwa [show i = ps.length by omega, List.take_length] at this
                  go_wp2
                  go_ret3
                  exact SigPost.full hlH.out hpH.out hyes hps.out hrw hbw
            | false =>
              have ht : typeL R.data.toList = true := by have := hgoodH.out; rw [hv] at this; simpa using this
              go_enter Tryz.func90, Tryz.ntmps90
              go_wp2_with (first
                | (go_at_call 104; refine (openH.out _).mono ?_; rintro e w ⟨rfl, he⟩; subst he)
                | (go_at_call 105; refine cutH.out.mono ?_; rintro e w1 ⟨rfl, hb1⟩)
                | (go_at_call 61; refine (typeH.out _).mono ?_; rintro e w2 ⟨rfl, hb2⟩; have hb3 := hb1.trans (hb2.mono hb1.size); clear hb1 hb2)
                | (go_at_call 106; refine (countH.out _).mono ?_; rintro e w2 ⟨rfl, he⟩; subst he)
                | (go_at_call 107; refine (splitH.out _ hb3).mono ?_; rintro e w3 ⟨g, rfl, hrow, hb4⟩; clear hb3))
              go_loopw [48] (fun iv wr => ∃ i : Nat, iv = .int .i64 i ∧ i ≤ ps.length ∧ RowAt wr w.heap.size ps (.slice (some ⟨g, 0, none⟩) ps.length ps.length) g ps.length ∧ Below w.heap.size w wr ∧ Hid ((ps.take i).all typeL = true)) (fun iv _ => ps.length - (intOf iv).toNat)
              case atStart => exact ⟨0, rfl, Nat.zero_le _, hrow, hb4, rfl⟩
              case round =>
                obtain ⟨i, rfl, hi, hrw, hbw, hall⟩ := hrel
                by_cases hin : i < ps.length
                · have hin1 : (i : Int) < ps.length := by omega
                  have hin0 : (0 : Int) ≤ i := by omega
                  have hc := hrw.cell i hin
                  have hglt := hrw.lt
                  have hpl := hplen.out ps[i] (List.getElem_mem hin)
                  have hnext : Hid (typeL ps[i] = true → (ps.take (i + 1)).all typeL = true) := fun h => by
                    rw [List.take_succ_eq_append_getElem hin, List.all_append, hall.out]; simp [h]
                  have hbad : Hid (typeL ps[i] = false → sigOk s.data.toList = false) := fun h => by
                    rw [hlH.out, sig_at _ _ hpH.out, hres.out h8n, List.all_eq_false]
                    exact ⟨ps[i], List.getElem_mem hin, by simp [h]⟩
                  obtain ⟨X, hX⟩ : ∃ X, mkS ps[i] = X := ⟨_, rfl⟩
                  have hXt : Hid (typeL X.data.toList = typeL ps[i]) := by rw [← hX]; rfl
                  have hXs : X.size ≤ 9223372036854775807 := by rw [← hX, ← toList_size, mkS_list]; omega
                  rw [hX] at hc
                  generalize typeL ps[i] = tb at *
                  have hXc : Hid (∀ w, Calls Tryz.prog 61 #[.string X] w fun e w' => e = .returned (.bool tb) ∧ Below w.heap.size w w') := fun w => by rw [← hXt.out]; exact implType_calls X w hXs
                  clear hX hXt hpl
                  cases tb with
                  | true =>
                    go_wp2_with (first
                      | (go_at_call 61; refine (hXc.out _).mono ?_; rintro e w5 ⟨rfl, hb5⟩))
                    go_roundw
                    case rel => exact ⟨i + 1, by simp, by omega, row_kept hrw hb5 hglt, hbw.trans (hb5.mono hbw.size), hnext.out (by trivial)⟩
                    case measure => first | (simp [intOf]; done) | (simp [intOf]; omega)
                  | false =>
                    have hno := hbad.out rfl
                    go_wp2_with (first
                      | (go_at_call 61; refine (hXc.out _).mono ?_; rintro e w5 ⟨rfl, hb5⟩))
                    go_ret3
                    exact SigPost.nil hno (hbw.trans (hb5.mono hbw.size))
                · have hin1 : ¬ (i : Int) < ps.length := by omega
                  have hyes : okOf P.data.toList R.data.toList = true := by
                    rw [hres.out h8n]
                    have := hall.out
                    rwa [show i = ps.length by omega, List.take_length] at this
                  go_wp2
                  go_ret3
                  exact SigPost.full hlH.out hpH.out hyes hps.out hrw hbw
      · -- the result is none
        have h1 : R.data.toList ≠ [86] := fun h => hV (.inl h)
        have hv : (R.toList == [86]) = false := by rw [ByteArray.toList_eq]; simpa using h1
        have ht : typeL R.data.toList = false := by
          cases h : typeL R.data.toList with
          | false => rfl
          | true => exact absurd (.inr h) hV
        have hno : sigOk s.data.toList = false := by
          rw [hlH.out, sig_at _ _ hpH.out]; unfold okOf
          rw [ByteArray.toList_eq] at hv
          rw [hv, ht]; simp
        clear hV h1
        go_enter Tryz.func90, Tryz.ntmps90
        go_wp2_with (first
          | (go_at_call 104; refine (openH.out _).mono ?_; rintro e w ⟨rfl, he⟩; subst he)
          | (go_at_call 105; refine cutH.out.mono ?_; rintro e w1 ⟨rfl, hb1⟩)
          | (go_at_call 61; refine (typeH.out _).mono ?_; rintro e w2 ⟨rfl, hb2⟩))
        go_ret3
        exact SigPost.nil hno (hb1.trans (hb2.mono hb1.size))
  · have hno : sigOk s.data.toList = false := sig_head (fun t h => hhead ⟨t, h⟩)
    have openH : Hid (∀ w, Calls Tryz.prog 104 #[.string s, .string ⟨#[40]⟩] w fun e w' => e = .returned (.tuple #[.string s, .bool false]) ∧ w' = w) := fun w => by
      refine (Tryz.strings_CutPrefix s ⟨#[40]⟩ w).mono ?_
      rintro e w' ⟨rfl, rfl⟩
      refine ⟨?_, rfl⟩
      rw [Lib.trimPrefix]
      rw [show Lib.hasPrefix s.data.toList (ByteArray.mk #[40]).data.toList = false from prefix40_no (fun t h => hhead ⟨t, h⟩)]
      rfl
    have cutH : Hid (Calls Tryz.prog 105 #[.string s, .string ⟨#[41]⟩] w fun e w' => ∃ A B b, e = .returned (.tuple #[.string A, .string B, .bool b]) ∧ Below w.heap.size w w') := by
      refine (Tryz.strings_Cut_shaped s ⟨#[41]⟩ w hshH.out (by omega)).mono ?_
      rintro e w' ⟨rfl, n, rfl⟩
      exact ⟨_, _, _, rfl, below_drewN (Below.refl _ _) n⟩
    clear hhead
    go_enter Tryz.func90, Tryz.ntmps90
    go_wp2_with (first
      | (go_at_call 104; refine (openH.out _).mono ?_; rintro e w ⟨rfl, he⟩; subst he)
      | (go_at_call 105; refine cutH.out.mono ?_; rintro e w1 ⟨A, B, b, rfl, hb1⟩))
    go_ret3
    exact SigPost.nil hno hb1
end Go.Proofs.YtcencddbdidjjaaGreatDoor

/- SigOk, Params, Result on both sides: what each answers at any text of at most 2^20 bytes. -/
namespace Go.Proofs.YtcencddbdidjjaaGreatDoor
set_option linter.unusedVariables false
open Go.ChangeShapes Go.WideShapes Go.ChangeAt Go.RowKit

theorem specSigOk_calls (s : ByteArray) (w : World) (hs : s.size ≤ 1048576) : Calls Tryz.prog 26 #[.string s] w fun e w' => e = .returned (.bool (sigOk s.data.toList)) ∧ Below w.heap.size w w' := by
  have h : Hid (∀ w, Calls Tryz.prog 51 #[.string s] w (SigPost s.data.toList w)) := fun w => specSig_calls s w hs
  go_enter Tryz.func26, Tryz.ntmps26
  go_wp2_with (go_at_call 51; refine (h.out _).mono ?_; rintro e w1 ⟨v, rfl, hown, hb⟩)
  go_ret
  exact ⟨rfl, hb⟩
theorem implSigOk_calls (s : ByteArray) (w : World) (hs : s.size ≤ 1048576) (hsh : w.ShapedOpen Tryz.prog) : Calls Tryz.prog 62 #[.string s] w fun e w' => e = .returned (.bool (sigOk s.data.toList)) ∧ Below w.heap.size w w' := by
  have h : Hid (Calls Tryz.prog 90 #[.string s] w (SigPost s.data.toList w)) := implSig_calls s w hs hsh
  clear hsh
  go_enter Tryz.func62, Tryz.ntmps62
  go_wp2_with (go_at_call 90; refine h.out.mono ?_; rintro e w1 ⟨v, rfl, hown, hb⟩)
  go_ret
  exact ⟨rfl, hb⟩
end Go.Proofs.YtcencddbdidjjaaGreatDoor
