/- The program's marker: what is there, painting, beginning, stepping. -/
import Derived.Test.YtchcdlelaklnnaaKmC
namespace Go.Proofs.Ytchcdlelaklnnaa
set_option linter.unusedVariables false
open Go.ChangeShapes Go.WideShapes Go.ChangeAt Go.RowKit

def notNil : Value → Bool
  | .pointer none => false
  | _ => true
/-- Of the first of the table, those that are there. -/
theorem therL_take (ps : List Nat) (obs : List ObM) : ∀ m, m ≤ obs.length → ((tabP ps obs).take (m + 1)).filter notNil = ptrsP ps ((List.range m).filter fun i => ((obs[i]?).map ObM.there).getD false) := by
  intro m
  induction m with
  | zero => intro _; rfl
  | succ m ih =>
    intro hm
    have hl : m + 1 < (tabP ps obs).length := by rw [tabP_length]; omega
    rw [List.take_add_one, List.getElem?_eq_getElem hl, Option.toList_some, List.filter_append, ih (by omega), List.range_succ, List.filter_append]
    have e : (tabP ps obs)[m + 1]'hl = if ((obs[m]?).map ObM.there).getD false then .pointer (some ⟨ps.getD m 0, 0, none⟩) else .pointer none := by simp [tabP]
    rw [e]
    cases ht : ((obs[m]?).map ObM.there).getD false
    · simp [ptrsP, ht, notNil]
    · simp [ptrsP, ht, notNil]
set_option maxRecDepth 100000 in
set_option maxHeartbeats 1000000 in
theorem isnil_calls (v : Option Addr) (w : World) : Calls Try.prog 60 #[.pointer v] w fun e w' => e = .returned (.bool (decide (v = none))) ∧ w' = w := by
  cases v with
  | none =>
    go_enter Try.func60, Try.ntmps60
    go_wp2
    go_ret
    exact ⟨rfl, rfl⟩
  | some a =>
    go_enter Try.func60, Try.ntmps60
    go_wp2
    go_ret
    exact ⟨rfl, rfl⟩
/-- What was found so far. -/
def thereUp (ps : List Nat) (obs : List ObM) (m : Nat) : List Value := ((tabP ps obs).take m).filter notNil
theorem thereUp_one (ps : List Nat) (obs : List ObM) (m : Nat) : ∀ u ∈ thereUp ps obs m, u.oneCell' = true := fun u hu => tabP_one ps obs u (List.mem_of_mem_take (List.mem_filter.1 hu).1)
theorem thereUp_len (ps : List Nat) (obs : List ObM) (m : Nat) : (thereUp ps obs m).length ≤ obs.length + 1 := by
  have h1 := List.length_filter_le notNil ((tabP ps obs).take m)
  have h2 : ((tabP ps obs).take m).length ≤ (tabP ps obs).length := by simp; omega
  rw [tabP_length] at h2
  unfold thereUp
  omega
theorem thereUp_all (ps : List Nat) (obs : List ObM) : thereUp ps obs (obs.length + 1) = ptrsP ps (therL obs) := therL_take ps obs obs.length (Nat.le_refl _)
theorem tabP_ptr (ps : List Nat) (obs : List ObM) (m : Nat) (h : m < (tabP ps obs).length) : ∃ v, (tabP ps obs)[m] = .pointer v := by
  have hm : (tabP ps obs)[m] ∈ tabP ps obs := List.getElem_mem h
  rcases List.mem_cons.1 hm with e | hm
  · exact ⟨_, e⟩
  · obtain ⟨i, _, e⟩ := List.mem_map.1 hm
    rw [← e]
    split <;> exact ⟨_, rfl⟩
theorem thereUp_some {ps : List Nat} {obs : List ObM} {m : Nat} (h : m < (tabP ps obs).length) {a : Addr} (e : (tabP ps obs)[m] = .pointer (some a)) : thereUp ps obs (m + 1) = thereUp ps obs m ++ [.pointer (some a)] := by
  unfold thereUp
  rw [List.take_add_one, List.getElem?_eq_getElem h, Option.toList_some, List.filter_append, e]
  rfl
theorem thereUp_none {ps : List Nat} {obs : List ObM} {m : Nat} (h : m < (tabP ps obs).length) (e : (tabP ps obs)[m] = .pointer none) : thereUp ps obs (m + 1) = thereUp ps obs m := by
  unfold thereUp
  rw [List.take_add_one, List.getElem?_eq_getElem h, Option.toList_some, List.filter_append, e]
  simp [notNil]
set_option maxRecDepth 100000 in
set_option maxHeartbeats 1000000 in
theorem without_calls (w : World) (ps : List Nat) (obs : List ObM) (g c : Nat) (h : w.ownsRow 0 62 1 (.slice (some ⟨g, 0, none⟩) (obs.length + 1) c) (obs.length + 1) (tabP ps obs)) (hl : obs.length ≤ 400) :
    Calls Try.prog 59 #[.slice (some ⟨g, 0, none⟩) (obs.length + 1) c, .func (.func 60) #[] #[]] w fun e w' => ∃ v, e = .returned v ∧ w'.ownsRow w.heap.size 62 1 v (therL obs).length (ptrsP ps (therL obs)) ∧ Below w.heap.size w w' := by
  obtain ⟨i8, hi8, hz8, hs8, hb8⟩ := ptr_info
  have hgl := lt_of (own_tag h (k := g) rfl).choose_spec
  have htab : Hid (∀ W, Below w.heap.size w W → ∀ m (hm : m < (tabP ps obs).length), W.cell? ⟨g, m, none⟩ = some ((tabP ps obs)[m])) := fun W hW m hm => by
    rw [hW.cell (p := ⟨g, m, none⟩) hgl, World.ownsRow.cellAt h m (by rw [tabP_length] at hm; omega)]
    simp [hm]
  have hlt0 : Hid ((tabP ps obs).length = obs.length + 1) := tabP_length _ _
  have hl' : (obs.length : Int) ≤ 400 := by omega
  clear h hgl
  go_enter Try.func59, Try.ntmps59
  go_wp2
  go_loopw [5, 10] (fun lv i wr => ∃ m : Nat, m ≤ obs.length + 1 ∧ i = .int .i64 m ∧ Hid (wr.ownsRow w.heap.size 62 1 lv (thereUp ps obs m).length (thereUp ps obs m)) ∧ Hid (Below w.heap.size w wr)) (fun _ i _ => obs.length + 1 - (intOf i).toNat)
  case atStart => exact ⟨0, Nat.zero_le _, rfl, ⟨rfl, .inl ⟨rfl, rfl⟩⟩, Below.refl _ _⟩
  case round =>
    obtain ⟨m, hm, rfl, hO, hB⟩ := hrel
    have hm0 : (0 : Int) ≤ m := by omega
    obtain ⟨la, lc, rfl⟩ := own_slice hO.out
    by_cases hlt : m < obs.length + 1
    · have hlt' : (m : Int) < (obs.length : Int) + 1 := by omega
      have hmt : m < (tabP ps obs).length := by rw [hlt0.out]; exact hlt
      have kt := htab.out wr hB.out m hmt
      obtain ⟨v, hv⟩ := tabP_ptr ps obs m hmt
      rw [hv] at kt
      have hisn : Hid (∀ W, Calls Try.prog 60 #[.pointer v] W fun e w' => e = .returned (.bool (decide (v = none))) ∧ w' = W) := fun W => isnil_calls v W
      cases v with
      | none =>
        have hnx : Hid (thereUp ps obs (m + 1) = thereUp ps obs m) := thereUp_none hmt hv
        have hO2 : Hid (wr.ownsRow w.heap.size 62 1 (.slice la (thereUp ps obs m).length lc) (thereUp ps obs (m + 1)).length (thereUp ps obs (m + 1))) := by rw [hnx.out]; exact hO
        clear hO hnx hv hmt htab
        go_wp2_with (go_at_call 60; refine (show Calls _ _ _ _ _ from hisn.out _).mono ?_; rintro e w1 ⟨rfl, hw⟩; subst hw)
        go_roundw
        case rel => exact ⟨m + 1, by omega, by go_num, hO2, hB⟩
        case measure => simp [intOf]; omega
      | some a =>
        have hnx : Hid (thereUp ps obs (m + 1) = thereUp ps obs m ++ [.pointer (some a)]) := thereUp_some hmt hv
        have hlen := thereUp_len ps obs m
        have hone : Hid (∀ u ∈ thereUp ps obs m, u.oneCell' = true) := thereUp_one ps obs m
        have hloA : Hid ((wr.alloc (.cells #[.pointer (some a)] 62)).ownsRow w.heap.size 62 1 (.slice la (thereUp ps obs m).length lc) (thereUp ps obs m).length (thereUp ps obs m)) := own_kept hO.out fun k hk => Below.heap_alloc _ _ _ (World.ownsRow.lt hO.out k hk).2
        have hsrcA : Hid (SrcAt (wr.alloc (.cells #[.pointer (some a)] 62)) 1 (.slice (some ⟨wr.heap.size, 0, none⟩) 1 1) 1 [.pointer (some a)]) := src_one wr _ 62
        have hsz : w.heap.size ≤ wr.heap.size := hB.out.size
        have hstep : Hid (∀ (v' : Value) (w2 : World), w2.ownsRow w.heap.size 62 1 v' ((thereUp ps obs m).length + 1) (thereUp ps obs m ++ [.pointer (some a)]) → (wr.alloc (.cells #[.pointer (some a)] 62)).grownBy w2 (Value.slice la (thereUp ps obs m).length lc).ownBlock → w2.ownsRow w.heap.size 62 1 v' (thereUp ps obs (m + 1)).length (thereUp ps obs (m + 1)) ∧ Below w.heap.size w w2) := fun v' w2 a1 a2 => by
          refine ⟨by rw [hnx.out, List.length_append]; exact a1, (hB.out.alloc hsz _).grown a2 (by rw [World.size_alloc]; omega) (fun j hj => (World.ownsRow.lt hO.out j hj).1)⟩
        clear hO hB hnx hv hmt htab
        generalize thereUp ps obs m = T at *
        go_wp2_with (first
          | (go_at_call 60; refine (show Calls _ _ _ _ _ from hisn.out _).mono ?_; rintro e w1 ⟨rfl, hw⟩; subst hw)
          | (refine wpList_append_src rfl (.tmp 18) (.tmp 20) 59 rfl w.heap.size 62 i8 (.pointer none) 1 8 Try.underlying59 hi8 hz8 hs8 hb8 rfl (by omega) _ T.length T rfl hloA.out _ 1 [.pointer (some a)] rfl hsrcA.out (by simp [Value.oneCell']) (by unfold maxLen; omega) (by omega) (by rw [World.size_alloc]; omega) (fun v' w2 hown2 hgrow2 hat2 => ?_); have hnn : Hid _ := hstep.out v' w2 hown2 hgrow2; obtain ⟨la', lc', rfl⟩ := own_slice hown2; clear hown2 hgrow2 hat2))
        go_roundw
        case rel => exact ⟨m + 1, by omega, by go_num, hnn.out.1, hnn.out.2⟩
        case measure => simp [intOf]; omega
    · have hge : ¬ ((m : Int) < (obs.length : Int) + 1) := by omega
      have hmE : m = obs.length + 1 := by omega
      subst hmE
      have hfin : Hid (wr.ownsRow w.heap.size 62 1 (.slice la (thereUp ps obs (obs.length + 1)).length lc) (therL obs).length (ptrsP ps (therL obs))) := by
        have h1 := hO.out
        have e : (ptrsP ps (therL obs)).length = (therL obs).length := by simp [ptrsP]
        rw [thereUp_all, e] at h1 ⊢
        exact h1
      clear hO
      go_wp2
      go_ret
      exact ⟨_, rfl, hfin.out, hB.out⟩
end Go.Proofs.Ytchcdlelaklnnaa
