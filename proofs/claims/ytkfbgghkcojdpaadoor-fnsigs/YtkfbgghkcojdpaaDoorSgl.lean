/- laws.FnSigs: a signature is its parameters and its result; the walk. -/
import Derived.Test.YtkfbgghkcojdpaaDoorSgd
import Derived.Test.YtkfbgghkcojdpaaDoorSig4
namespace Go.Proofs.YtkfbgghkcojdpaaDoor
set_option linter.unusedVariables false
open Go.ChangeShapes Go.WideShapes Go.ChangeAt Go.RowKit

theorem mkS_append (a b : List UInt8) : mkS a ++ mkS b = mkS (a ++ b) := by
  simp [mkS, ByteArray.mk_append_mk]
/-- Pieces with commas between them. -/
def glue : List (List UInt8) → List UInt8
  | [] => []
  | p :: r => p ++ r.flatMap (fun q => 44 :: q)
theorem glue_cons (q : List UInt8) (r : List (List UInt8)) : (q :: r).flatMap (fun q => 44 :: q) = 44 :: glue (q :: r) := by simp [glue]
theorem glue_split : ∀ p : List UInt8, glue (splitL p) = p
  | [] => rfl
  | b :: t => by
    have ih := glue_split t
    simp only [splitL]
    split
    · rename_i h
      subst h
      cases hs : splitL t with
      | nil => exact absurd hs (splitL_ne t)
      | cons q r =>
        rw [hs] at ih
        show [] ++ (q :: r).flatMap (fun q => 44 :: q) = _
        rw [glue_cons, ih]; rfl
    · split
      · rename_i h; exact absurd h (splitL_ne t)
      · rename_i q r h
        rw [h] at ih
        show (b :: q) ++ r.flatMap (fun q => 44 :: q) = _
        rw [← ih]; rfl
theorem glue_pars (p : List UInt8) : glue (parsOf p) = p := by
  unfold parsOf
  split
  · rename_i h; rw [h]; rfl
  · exact glue_split p
theorem glue_step (ps : List (List UInt8)) (k : Nat) (h : k < ps.length) : glue (ps.take (k + 1)) = glue (ps.take k) ++ ((if 0 < k then [44] else []) ++ ps[k]) := by
  cases ps with
  | nil => simp at h
  | cons q r =>
    cases k with
    | zero => simp [glue]
    | succ k =>
      have hr : k < r.length := by simpa using h
      have e := List.take_succ_eq_append_getElem hr
      rw [List.take_succ_cons, List.take_succ_cons, e]
      simp only [glue]
      rw [List.flatMap_append]
      simp
theorem flat_len (q : List UInt8) : ∀ r : List (List UInt8), q ∈ r → q.length ≤ (r.flatMap (fun q => 44 :: q)).length
  | [], h => by simp at h
  | x :: r, h => by
    rw [List.mem_cons] at h
    rcases h with rfl | h
    · simp; omega
    · have := flat_len q r h
      simp at this ⊢; omega
theorem piece_len (ps : List (List UInt8)) (p : List UInt8) (h : p ∈ ps) : p.length ≤ (glue ps).length := by
  cases ps with
  | nil => simp at h
  | cons q r =>
    rw [List.mem_cons] at h
    rcases h with rfl | h
    · simp [glue]
    · have := flat_len p r h
      simp only [glue, List.length_append]
      omega
theorem flat_take (k : Nat) : ∀ (r : List (List UInt8)), ((r.take k).flatMap (fun q => 44 :: q)).length ≤ (r.flatMap (fun q => 44 :: q)).length := by
  induction k with
  | zero => intro r; simp
  | succ k ih =>
    intro r
    cases r with
    | nil => simp
    | cons x r =>
      have := ih r
      simp at this ⊢; omega
theorem glue_take_len (ps : List (List UInt8)) (k : Nat) : (glue (ps.take k)).length ≤ (glue ps).length := by
  cases ps with
  | nil => simp
  | cons q r =>
    cases k with
    | zero => simp [glue]
    | succ k =>
      have := flat_take k r
      simp only [List.take_succ_cons, glue, List.length_append]
      omega

theorem sig_text {l : List UInt8} (h : sigOk l = true) : ((40 :: glue (sigPars l)) ++ [41]) ++ sigRes l = l ∧ (sigPars l).length ≤ 8 ∧ ∀ p ∈ sigPars l, typeL p = true := by
  unfold sigPars sigRes
  rw [if_pos h, if_pos h]
  unfold sigOk at h
  split at h
  · rename_i t
    rcases index_byte 41 t with ⟨_, h2⟩ | ⟨p, r, h1, h2, _⟩
    · rw [cut_none 41 t h2] at h; simp at h
    · subst h1
      rw [cut_at 41 p r h2] at h
      show ((40 :: glue (parsOf (Lib.cut (p ++ 41 :: r) [41]).1)) ++ [41]) ++ (Lib.cut (p ++ 41 :: r) [41]).2.1 = _ ∧ (parsOf (Lib.cut (p ++ 41 :: r) [41]).1).length ≤ 8 ∧ ∀ q ∈ parsOf (Lib.cut (p ++ 41 :: r) [41]).1, typeL q = true
      rw [cut_at 41 p r h2]
      simp only [okOf, Bool.true_and, Bool.and_eq_true, decide_eq_true_eq, List.all_eq_true] at h
      refine ⟨?_, h.1.1, h.2⟩
      show ((40 :: glue (parsOf p)) ++ [41]) ++ r = _
      rw [glue_pars]; simp
  · cases h

theorem big_calls (C : Option Addr) (len cap : Nat) (w : World) : Calls Tryd.prog 4 #[.slice C len cap] w fun e w' => e = .returned (.bool (decide ((1048576 : Int) < len))) ∧ w' = w := by
  go_enter Tryd.func4, Tryd.ntmps4
  go_wp2
  go_ret
  exact ⟨rfl, rfl⟩
theorem lit_ok : sigOk [40, 73, 44, 64, 65, 41, 86] = true := by decide
theorem kind_of_type {l : List UInt8} (h : typeL l = true) : (kindL l == 0) = false := by
  unfold typeL at h
  simpa using h

set_option maxRecDepth 1000000 in
set_option maxHeartbeats 16000000 in
theorem sigs_walk (C : Option Addr) (len cap : Nat) (w : World) (hc : Code C len w) (hsh : w.ShapedOpen Tryd.prog) :
    Calls Tryd.prog 3 #[.slice C len cap] w fun e w' => e = .returned (.bool true) ∧ Below w.heap.size w w' := by
  by_cases hbig : (1048576 : Int) < len
  · have bigH : Hid (∀ w, Calls Tryd.prog 4 #[.slice C len cap] w fun e w' => e = .returned (.bool true) ∧ w' = w) := fun w => by
      have := big_calls C len cap w
      rw [decide_eq_true hbig] at this
      exact this
    clear hc hsh
    go_enter Tryd.func3, Tryd.ntmps3
    go_wp2_with (go_at_call 4; refine (bigH.out _).mono ?_; rintro e w' ⟨rfl, he⟩; subst he)
    go_ret
    exact ⟨rfl, Below.refl _ _⟩
  have bigH : Hid (∀ w, Calls Tryd.prog 4 #[.slice C len cap] w fun e w' => e = .returned (.bool false) ∧ w' = w) := fun w => by
    have := big_calls C len cap w
    rw [decide_eq_false hbig] at this
    exact this
  have later : Hid (∀ W W' : World, Below w.heap.size w W → Below W.heap.size W W' → Below w.heap.size w W') := fun W W' h1 h2 => h1.trans (h2.mono h1.size)
  have litH : Hid (Calls Tryd.prog 5 #[.string ⟨#[40, 73, 44, 64, 65, 41, 86]⟩] w fun e w' => e = .returned (.bool true) ∧ Below w.heap.size w w') := by
    have h := implSigOk_calls ⟨#[40, 73, 44, 64, 65, 41, 86]⟩ w (by decide) hsh
    have e : (ByteArray.mk #[40, 73, 44, 64, 65, 41, 86]).data.toList = [40, 73, 44, 64, 65, 41, 86] := rfl
    rw [e, lit_ok] at h
    exact h
  have drawH : Hid (∀ W : World, Below w.heap.size w W → Calls Tryd.prog 6 #[.slice C len cap] W fun e w' => ∃ s : ByteArray, s.size ≤ 2000 ∧ e = .returned (.string s) ∧ Below w.heap.size w w') := fun W hW => (drawSigOk_calls C len cap W (hc.later hW)).mono fun e w' ⟨s, a, b, c⟩ => ⟨s, a, b, later.out _ _ hW c⟩
  have implH : Hid (∀ s : ByteArray, s.size ≤ 2000 → ∀ W : World, Below w.heap.size w W → Calls Tryd.prog 5 #[.string s] W fun e w' => e = .returned (.bool (sigOk s.data.toList)) ∧ Below w.heap.size w w') := fun s hs W hW => (implSigOk_calls s W (by omega) (shaped_below hsh hW)).mono fun e w' ⟨a, b⟩ => ⟨a, later.out _ _ hW b⟩
  have specH : Hid (∀ s : ByteArray, s.size ≤ 2000 → ∀ W : World, Below w.heap.size w W → Calls Tryd.prog 7 #[.string s] W fun e w' => e = .returned (.bool (sigOk s.data.toList)) ∧ Below w.heap.size w w') := fun s hs W hW => (specSigOk_calls s W (by omega)).mono fun e w' ⟨a, b⟩ => ⟨a, later.out _ _ hW b⟩
  have parH : Hid (∀ s : ByteArray, s.size ≤ 2000 → ∀ W : World, Below w.heap.size w W → Calls Tryd.prog 8 #[.string s] W fun e w' => ∃ v, e = .returned v ∧ w'.ownsRow W.heap.size 9 1 v (sigPars s.data.toList).length (rowS (sigPars s.data.toList)) ∧ Below w.heap.size w w') := fun s hs W hW => (implParams_calls s W (by omega) (shaped_below hsh hW)).mono fun e w' ⟨v, a, b, c⟩ => ⟨v, a, b, later.out _ _ hW c⟩
  have resH : Hid (∀ s : ByteArray, s.size ≤ 2000 → ∀ W : World, Below w.heap.size w W → Calls Tryd.prog 9 #[.string s] W fun e w' => e = .returned (.string (mkS (sigRes s.data.toList))) ∧ Below w.heap.size w w') := fun s hs W hW => (implResult_calls s W (by omega) (shaped_below hsh hW)).mono fun e w' ⟨a, b⟩ => ⟨a, later.out _ _ hW b⟩
  have typeH : Hid (∀ p : List UInt8, p.length ≤ 2000 → typeL p = true → ∀ W : World, Calls Tryd.prog 10 #[.string (mkS p)] W fun e w' => e = .returned (.bool true) ∧ Below W.heap.size W w') := fun p hp ht W => by
    have h := implType_calls (mkS p) W (by rw [← toList_size, mkS_list]; omega)
    rw [mkS_list, ht] at h
    exact h
  have kindH : Hid (∀ p : List UInt8, p.length ≤ 2000 → ∀ W : World, Calls Tryd.prog 11 #[.string (mkS p)] W fun e w' => e = .returned (.int .i64 (kindL p)) ∧ Below W.heap.size W w') := fun p hp W => by
    have h := implKind_calls (mkS p) W (by rw [← toList_size, mkS_list]; omega)
    rw [mkS_list] at h
    exact h
  clear hc hsh
  go_enter Tryd.func3, Tryd.ntmps3
  go_wp2_with (first
    | (go_at_call 4; refine (bigH.out _).mono ?_; rintro e w' ⟨rfl, he⟩; subst he)
    | (go_at_call 5; fail))
  refine litH.out.mono ?_
  rintro e w1 ⟨rfl, hB1⟩
  go_wp2_with (go_at_call 6; fail)
  refine (drawH.out _ hB1).mono ?_
  rintro e w2 ⟨s, hs, rfl, hB2⟩
  have implS := implH.out s hs
  have specS := specH.out s hs
  have parS := parH.out s hs
  have resS := resH.out s hs
  have implSH : Hid (∀ W : World, Below _ _ W → Calls Tryd.prog 5 #[.string s] W fun e w' => e = .returned (.bool (sigOk s.data.toList)) ∧ Below _ _ w') := implS
  have specSH : Hid (∀ W : World, Below _ _ W → Calls Tryd.prog 7 #[.string s] W fun e w' => e = .returned (.bool (sigOk s.data.toList)) ∧ Below _ _ w') := specS
  have parSH : Hid (∀ W : World, Below _ _ W → Calls Tryd.prog 8 #[.string s] W fun e w' => ∃ v, e = .returned v ∧ w'.ownsRow W.heap.size 9 1 v (sigPars s.data.toList).length (rowS (sigPars s.data.toList)) ∧ Below _ _ w') := parS
  have resSH : Hid (∀ W : World, Below _ _ W → Calls Tryd.prog 9 #[.string s] W fun e w' => e = .returned (.string (mkS (sigRes s.data.toList))) ∧ Below _ _ w') := resS
  have hl := toList_size s
  clear implS specS parS resS implH specH parH resH drawH litH bigH
  cases hok : sigOk s.data.toList
  · have hp0 : sigPars s.data.toList = [] := by unfold sigPars; rw [hok]; rfl
    have hr0 : sigRes s.data.toList = [] := by unfold sigRes; rw [hok]; rfl
    rw [hok] at implSH specSH
    rw [hp0] at parSH
    rw [hr0] at resSH
    have hE : (mkS []).toList.isEmpty = true := by rw [ByteArray.toList_eq, mkS_list]; rfl
    clear hok hp0 hr0 typeH kindH
    go_wp2_with (go_at_call 5; fail)
    refine (implSH.out _ (by assumption)).mono ?_
    rintro e w3 ⟨rfl, hB3⟩
    go_wp2_with (go_at_call 7; fail)
    refine (specSH.out _ (by assumption)).mono ?_
    rintro e w4 ⟨rfl, hB4⟩
    go_wp2_with (go_at_call 5; fail)
    refine (implSH.out _ (by assumption)).mono ?_
    rintro e w5 ⟨rfl, hB5⟩
    go_wp2_with (go_at_call 8; fail)
    refine (parSH.out _ (by assumption)).mono ?_
    rintro e w6 ⟨v, rfl, hown, hB6⟩
    obtain ⟨a, c, rfl⟩ : ∃ a c, v = .slice a 0 c := by
      obtain ⟨_, ⟨rfl, _⟩ | ⟨g, cap, cur, rfl, _⟩⟩ := hown
      · exact ⟨none, 0, rfl⟩
      · exact ⟨_, _, rfl⟩
    clear hown
    go_wp2_with (go_at_call 9; fail)
    refine (resSH.out _ (by assumption)).mono ?_
    rintro e w7 ⟨rfl, hB7⟩
    go_wp2
    go_ret
    exact ⟨rfl, by assumption⟩
  · obtain ⟨ht1, ht2, ht3⟩ := sig_text hok
    rw [hok] at implSH specSH
    obtain ⟨ps, hps⟩ : ∃ ps, sigPars s.data.toList = ps := ⟨_, rfl⟩
    obtain ⟨rs, hrs⟩ : ∃ rs, sigRes s.data.toList = rs := ⟨_, rfl⟩
    rw [hps] at parSH ht1 ht2 ht3
    rw [hrs] at resSH ht1
    have ht1H : Hid (((40 :: glue ps) ++ [41]) ++ rs = s.data.toList) := ht1
    have ht3H : Hid (∀ p ∈ ps, typeL p = true) := ht3
    have hlen : Hid (∀ p ∈ ps, p.length ≤ 2000) := fun p hp => by
      have h1 := congrArg List.length ht1H.out
      have h2 := piece_len ps p hp
      simp at h1
      omega
    have hglue : Hid (∀ k, (40 :: glue (ps.take k)).length ≤ 4000) := fun k => by
      have h1 := congrArg List.length ht1H.out
      have h2 := glue_take_len ps k
      simp at h1 ⊢
      omega
    clear hok hps hrs ht1 ht3
    go_wp2_with (go_at_call 5; fail)
    refine (implSH.out _ (by assumption)).mono ?_
    rintro e w3 ⟨rfl, hB3⟩
    go_wp2_with (go_at_call 7; fail)
    refine (specSH.out _ (by assumption)).mono ?_
    rintro e w4 ⟨rfl, hB4⟩
    go_wp2_with (go_at_call 5; fail)
    refine (implSH.out _ (by assumption)).mono ?_
    rintro e w5 ⟨rfl, hB5⟩
    go_wp2_with (go_at_call 8; fail)
    refine (parSH.out _ (by assumption)).mono ?_
    rintro e w6 ⟨v, rfl, hown, hB6⟩
    have hcells := fun g hg => hown.cells (g := g) hg
    have hlts := hown.lt
    obtain ⟨_, ⟨rfl, h0⟩ | ⟨g, cp, cur, rfl, hg, hrest⟩⟩ := hown
    · have hp : ps = [] := List.eq_nil_of_length_eq_zero h0
      subst hp
      have hfin : (((mkS [40] ++ ⟨#[41]⟩) ++ mkS rs).toList == s.toList) = true := by
        rw [show (⟨#[41]⟩ : ByteArray) = mkS [41] from rfl, mkS_append, mkS_append, ByteArray.toList_eq, ByteArray.toList_eq, mkS_list]
        have := ht1H.out
        simpa [glue] using this
      have hz1 : (mkS rs).size ≤ 2000 := by
        rw [← toList_size, mkS_list]
        have := congrArg List.length ht1H.out
        simp at this; omega
      have hz2 : (mkS [40]).size = 1 := rfl
      have hz3 : (mkS [40] ++ ⟨#[41]⟩).size = 2 := rfl
      clear h0 hcells hlts ht1H ht3H hlen hglue typeH kindH
      go_wp2
      go_loopw [4, 6] (fun tv iv wr => tv = .string (mkS [40]) ∧ iv = .int .i64 0 ∧ wr = w6) (fun _ _ _ => 0)
      case atStart => exact ⟨rfl, rfl, rfl⟩
      case round =>
        obtain ⟨rfl, rfl, rfl⟩ := hrel
        go_wp2_with (go_at_call 9; fail)
        refine (resSH.out _ (by assumption)).mono ?_
        rintro e w7 ⟨rfl, hB7⟩
        go_wp2
        go_ret
        exact ⟨rfl, by assumption⟩
    · have hc6 : Hid (∀ j (h : j < ps.length), w6.cell? ⟨g, j, none⟩ = some (.string (mkS (ps[j]'h)))) := fun j h => by
        have := hcells g rfl j (.string (mkS (ps[j]'h))) (by simp [rowS, h])
        have hadd : (⟨g, 0, none⟩ : Addr).add j = ⟨g, j, none⟩ := by unfold Addr.add; split <;> simp_all
        rwa [hadd] at this
      have hg6 : g < w6.heap.size := (hlts g rfl).2
      have hn7 : ps.length ≤ 8 := ht2
      have hn8 : Hid (decide ((ps.length : Int) ≤ 8) = true) := decide_eq_true (by omega)
      have hz1 : (mkS rs).size ≤ 2000 := by
        rw [← toList_size, mkS_list]
        have := congrArg List.length ht1H.out
        simp at this; omega
      have hfin : Hid ((((mkS (40 :: glue ps) ++ mkS [41]) ++ mkS rs).toList == s.toList) = true) := by
        show _ = _
        rw [mkS_append, mkS_append, ByteArray.toList_eq, ByteArray.toList_eq, mkS_list]
        have := ht1H.out
        simpa using this
      clear hcells hlts hrest ht1H ht2
      go_wp2
      go_loopw [4, 6] (fun tv iv wr => ∃ k : Nat, k ≤ ps.length ∧ iv = .int .i64 k ∧ ∃ T : ByteArray, tv = .string T ∧ Hid (T = mkS (40 :: glue (ps.take k))) ∧ Below w6.heap.size w6 wr) (fun _ iv _ => ps.length - (intOf iv).toNat)
      case atStart => exact ⟨0, by omega, rfl, _, rfl, rfl, Below.refl _ _⟩
      case round =>
        obtain ⟨k, hk, rfl, T, rfl, hT, hbr⟩ := hrel
        have hTs : T.size ≤ 4000 := by rw [hT.out, ← toList_size, mkS_list]; exact hglue.out k
        by_cases hlt : k < ps.length
        · have hlt' : (k : Int) < ps.length := by omega
          have hcell : ∀ W : World, Below w6.heap.size w6 W → W.cell? ⟨g, k, none⟩ = some (.string (mkS (ps[k]'hlt))) := fun W hW => (hW.cell (show (⟨g, k, none⟩ : Addr).block < w6.heap.size from hg6)).trans (hc6.out k hlt)
          have hcH : Hid (∀ W : World, Below w6.heap.size w6 W → W.cell? ⟨g, k, none⟩ = some (.string (mkS (ps[k]'hlt)))) := hcell
          have hpm : (ps[k]'hlt) ∈ ps := List.getElem_mem hlt
          have typeK : Hid (∀ W : World, Below w6.heap.size w6 W → Calls Tryd.prog 10 #[.string (mkS (ps[k]'hlt))] W fun e w' => e = .returned (.bool true) ∧ Below w6.heap.size w6 w') := fun W hW => (typeH.out _ (hlen.out _ hpm) (ht3H.out _ hpm) W).mono fun e w' ⟨a, b⟩ => ⟨a, hW.trans (b.mono hW.size)⟩
          have kindK : Hid (∀ W : World, Below w6.heap.size w6 W → Calls Tryd.prog 11 #[.string (mkS (ps[k]'hlt))] W fun e w' => e = .returned (.int .i64 (kindL (ps[k]'hlt))) ∧ Below w6.heap.size w6 w') := fun W hW => (kindH.out _ (hlen.out _ hpm) W).mono fun e w' ⟨a, b⟩ => ⟨a, hW.trans (b.mono hW.size)⟩
          have hkz : (kindL (ps[k]'hlt) == 0) = false := kind_of_type (ht3H.out _ hpm)
          have hps : (mkS (ps[k]'hlt)).size ≤ 2000 := by rw [← toList_size, mkS_list]; exact hlen.out _ hpm
          have hstep : Hid (T ++ mkS ((if 0 < k then [44] else []) ++ (ps[k]'hlt)) = mkS (40 :: glue (ps.take (k + 1)))) := by
            show _ = _
            rw [hT.out, mkS_append, glue_step ps k hlt]; simp
          generalize (ps[k]'hlt) = P at *
          have hc0 := hcH.out _ hbr
          clear hcell hT hpm
          by_cases h0 : (0 : Int) < k
          · have hTc : (T ++ ⟨#[44]⟩).size ≤ 4001 := by rw [ByteArray.size_append]; show T.size + 1 ≤ 4001; omega
            have hstep2 : Hid (T ++ ⟨#[44]⟩ ++ mkS P = mkS (40 :: glue (ps.take (k + 1)))) := by
              show _ = _
              rw [← hstep.out, if_pos (by omega)]
              have : (⟨#[44]⟩ : ByteArray) = mkS [44] := rfl
              rw [this, ByteArray.append_assoc, mkS_append]
            clear hstep
            go_wp2_with (go_at_call 10; fail)
            refine (typeK.out _ hbr).mono ?_
            rintro e w7 ⟨rfl, hb7⟩
            have hc7 := hcH.out _ hb7
            go_wp2_with (go_at_call 11; fail)
            refine (kindK.out _ hb7).mono ?_
            rintro e w8 ⟨rfl, hb8⟩
            have hc8 := hcH.out _ hb8
            go_wp2
            go_roundw
            case rel => exact ⟨k + 1, by omega, by simp, _, rfl, hstep2, hb8⟩
            case measure => simp [intOf]; omega
          · have hstep2 : Hid (T ++ mkS P = mkS (40 :: glue (ps.take (k + 1)))) := by
              show _ = _
              rw [← hstep.out, if_neg (by omega)]; rfl
            clear hstep
            go_wp2_with (go_at_call 10; fail)
            refine (typeK.out _ hbr).mono ?_
            rintro e w7 ⟨rfl, hb7⟩
            have hc7 := hcH.out _ hb7
            go_wp2_with (go_at_call 11; fail)
            refine (kindK.out _ hb7).mono ?_
            rintro e w8 ⟨rfl, hb8⟩
            have hc8 := hcH.out _ hb8
            go_wp2
            go_roundw
            case rel => exact ⟨k + 1, by omega, by simp, _, rfl, hstep2, hb8⟩
            case measure => simp [intOf]; omega
        · have hlt' : ¬ (k : Int) < ps.length := by omega
          have hke : k = ps.length := by omega
          have hTe : T = mkS (40 :: glue ps) := by rw [hT.out, hke, List.take_length]
          have hbB : Hid (Below _ _ wr) := later.out _ _ hB6 hbr
          have hf2 : (((T ++ mkS [41]) ++ mkS rs).toList == s.toList) = true := by rw [hTe]; exact hfin.out
          have hf3 : Hid ((((T ++ ⟨#[41]⟩) ++ mkS rs).toList == s.toList) = true) := hf2
          have hTc : (T ++ ⟨#[41]⟩).size ≤ 4001 := by rw [ByteArray.size_append]; show T.size + 1 ≤ 4001; omega
          have hbB2 := hbB.out
          clear hT hTe hfin hf2 hke
          go_wp2_with (go_at_call 9; fail)
          refine (resSH.out _ hbB2).mono ?_
          rintro e w7 ⟨rfl, hB7⟩
          have hf4 := hf3.out
          have hn9 := hn8.out
          go_wp2
          go_ret
          exact ⟨by first | rfl | (simp only [hn9]; rfl), by assumption⟩
end Go.Proofs.YtkfbgghkcojdpaaDoor
