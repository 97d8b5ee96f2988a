/- What a run tells as gone was not reached: for the answers and heaps as they are told. -/
import Derived.Test.YtcigiilhlealdaaRsG
import Derived.Test.YtcigiilhlealdaaDrC
import Derived.Test.YtcigiilhlealdaaMrF
namespace Go.Proofs.Ytcigiilhlealdaa
set_option linter.unusedVariables false
open Go.ChangeShapes Go.WideShapes Go.ChangeAt Go.RowKit

theorem obsP_has {obs : List ObM} {z : Int} (h : ∃ o ∈ obsP obs, o.id = z) : ∃ o, getM obs z = some o ∧ ∀ x ∈ obsP obs, x.id = z → x.flds = o.flds := by
  obtain ⟨x, hx, e⟩ := h
  have key : ∀ x ∈ obsP obs, x.id = z → ∃ o, getM obs z = some o ∧ x.flds = o.flds := fun x hx e => by
    obtain ⟨i, hi, rfl⟩ := List.mem_map.1 hx
    obtain ⟨o, ho, ht⟩ := mem_therL.1 hi
    rw [obP_some ho] at e ⊢
    refine ⟨o, getM_some.2 ⟨by simp only at e; omega, ?_, ht⟩, rfl⟩
    have : z.toNat - 1 = i := by simp only at e; omega
    rw [this]
    exact ho
  obtain ⟨o, ho, _⟩ := key x hx e
  refine ⟨o, ho, fun y hy ey => ?_⟩
  obtain ⟨o', ho', e'⟩ := key y hy ey
  rw [ho] at ho'
  injection ho' with ho'
  rw [e', ho']
theorem LvP.reach {s : StM} {z : Int} (h : LvP (obsP s.obs) s.roots z) : ReachM s z := by
  induction h with
  | root h1 h2 =>
    obtain ⟨o, ho, _⟩ := obsP_has h2.2
    exact .root h1 ho
  | @step id o hp ho hid hh ih =>
    obtain ⟨x, hx, hf⟩ := obsP_has ⟨o, ho, rfl⟩
    obtain ⟨y, hy, _⟩ := obsP_has hh.2
    exact .step ih hx (by rw [← hf o ho rfl]; exact hid) hy
theorem ansL_get : ∀ (ops : List OpM) (s : StM) (i : Nat) (h : i < (ansL s ops).length) (h2 : i < ops.length), (ansL s ops)[i] = ansM (runM s (ops.take i)) ops[i]
  | [], _, _, _, h2 => by simp at h2
  | op :: ops, s, 0, _, _ => rfl
  | op :: ops, s, i + 1, h, h2 => by
    have := ansL_get ops (doM s op) i (by simpa [ansL] using h) (by simpa using h2)
    exact this
theorem ansRun_gone_not {mode : Int} {ops : List OpM} {i : Nat} (hi : i < (ansRun mode ops).length) : runOk mode ops.length = true ∧ ∃ hi2 : i < ops.length, ∀ z ∈ (ansRun mode ops)[i].gone, ¬ LvP (atM mode (ops.take i)).os (atM mode (ops.take i)).rs z := by
  have hi0 := hi
  unfold ansRun at hi0
  split at hi0
  · rename_i h
    have hm := h
    simp [runOk] at hm
    have hi2 : i < ops.length := by rw [ansL_length] at hi0; exact hi0
    refine ⟨h, hi2, fun z hz hl => ?_⟩
    have hok : runOk mode (ops.take i).length = true := by simp [runOk, hm.1]; omega
    have e : atM mode (ops.take i) = hpOf (runM (newM mode) (ops.take i)) := by unfold atM; rw [if_pos hok]
    rw [e] at hl
    have hg : GoodM (runM (newM mode) (ops.take i)) := (GoodM.new hm.1).run _
    have e2 : (ansRun mode ops)[i] = ansM (runM (newM mode) (ops.take i)) ops[i] := by
      have : ansRun mode ops = ansL (newM mode) ops := by unfold ansRun; rw [if_pos h]
      simp only [this]
      exact ansL_get _ _ _ _ hi2
    rw [e2] at hz
    exact gone_not hg _ hz (LvP.reach hl)
  · simp at hi0
theorem atM_small (mode : Int) (ops : List OpM) : ¬ ((atM mode ops).rs.length > 8 ∨ (atM mode ops).os.length > 400) ∧ ∀ o ∈ (atM mode ops).os, o.small := by
  unfold atM
  split
  · rename_i h
    simp [runOk] at h
    have g : GoodM (runM (newM mode) ops) := (GoodM.new h.1).run _
    have h1 := therL_len (runM (newM mode) ops).obs
    have h2 := g.len
    have h3 := obsP_length (runM (newM mode) ops).obs
    have h4 := g.inv.rl
    have h5 : (hpOf (runM (newM mode) ops)).os = obsP (runM (newM mode) ops).obs := rfl
    have h6 : (hpOf (runM (newM mode) ops)).rs = (runM (newM mode) ops).roots := rfl
    rw [h5, h6]
    exact ⟨by omega, fun o ho => by have := obsP_six g.fl o ho; show _ ≤ _; omega⟩
  · exact ⟨by simp, fun o ho => by simp at ho⟩
set_option maxRecDepth 100000 in
theorem big_calls (C : Option Addr) (len cap : Nat) (w : World) : Calls Try.prog 6 #[.slice C len cap] w fun e w' => e = .returned (.bool (decide ((1048576 : Int) < len))) ∧ w' = w := by
  by_cases h : (1048576 : Int) < len
  · go_enter Try.func6, Try.ntmps6
    go_wp2
    go_ret
    exact ⟨by simp [h], rfl⟩
  · go_enter Try.func6, Try.ntmps6
    go_wp2
    go_ret
    exact ⟨by simp [h], rfl⟩
set_option maxRecDepth 1000000 in
set_option maxHeartbeats 1000000 in
theorem hasNum_no (v : Value) (zs : List Int) (n : Int) (w : World) (lo hi : Nat) (h : IntsAt lo hi w v zs) (hn : n ∉ zs) (hl : zs.length ≤ 1048576) : Calls Try.prog 12 #[v, .int .i64 n] w fun e w' => e = .returned (.bool false) ∧ w' = w := by
  obtain ⟨a, c, rfl⟩ := h.form
  have hH : Hid (∀ j (hj : j < zs.length), ∃ b, a = some ⟨b, 0, none⟩ ∧ w.cell? ⟨b, j, none⟩ = some (.int .i64 zs[j])) := fun j hj => by
    obtain ⟨b, h1, _, _, h2, _⟩ := h.at j hj
    exact ⟨b, h1, h2⟩
  have hnH : Hid (n ∉ zs) := hn
  have hl' : (zs.length : Int) ≤ 1048576 := by omega
  clear h hn
  go_enter Try.func12, Try.ntmps12
  go_wp2
  go_loopw [5] (fun i wr => ∃ m : Nat, m ≤ zs.length ∧ i = .int .i64 m ∧ wr = w) (fun i _ => zs.length - (intOf i).toNat)
  case atStart => exact ⟨0, Nat.zero_le _, rfl, rfl⟩
  case round =>
    obtain ⟨m, hm, rfl, hw⟩ := hrel
    have hw2 := hw.symm
    subst hw2
    clear hw
    have hm0 : (0 : Int) ≤ m := by omega
    by_cases hlt : m < zs.length
    · have hlt' : (m : Int) < (zs.length : Int) := by omega
      obtain ⟨b, rfl, c0⟩ := hH.out m hlt
      have hne : ¬ zs[m] = n := fun e => hnH.out (e ▸ List.getElem_mem hlt)
      generalize zs[m] = z at *
      go_wp2
      go_roundw
      case rel => exact ⟨m + 1, by omega, by go_num, by first | trivial | rfl⟩
      case measure => simp [intOf]; omega
    · have hge : ¬ ((m : Int) < (zs.length : Int)) := by omega
      go_wp2
      go_ret
      exact ⟨rfl, by first | trivial | rfl⟩
end Go.Proofs.Ytcigiilhlealdaa

/- The law: no cycle takes what is reached at its end. -/
namespace Go.Proofs.Ytcigiilhlealdaa
set_option linter.unusedVariables false
open Go.ChangeShapes Go.WideShapes Go.ChangeAt Go.RowKit

structure LgW (w W : World) (L : List AnsM) (ops : List OpM) (ov wv xv : Value) (o1 o2 p1 p2 x1 x2 : Nat) : Prop where
  hb : Below w.heap.size w W
  n : o2 ≤ W.heap.size ∧ p2 ≤ W.heap.size ∧ x2 ≤ W.heap.size
  O : AnsR o1 o2 W ov L
  P : AnsR p1 p2 W wv L
  X : ListAt MopR 4 false x1 x2 W xv ops
theorem LgW.on {w W W' : World} {L : List AnsM} {ops : List OpM} {ov wv xv : Value} {o1 o2 p1 p2 x1 x2 : Nat} (h : LgW w W L ops ov wv xv o1 o2 p1 p2 x1 x2) (hb : Below W.heap.size W W') : LgW w W' L ops ov wv xv o1 o2 p1 p2 x1 x2 := by
  have n := h.n
  have := hb.size
  exact ⟨below_on2 h.hb hb, by omega, h.O.kept ((Same.below hb).mono (Nat.zero_le _) (by omega)), h.P.kept ((Same.below hb).mono (Nat.zero_le _) (by omega)), h.X.kept MopR.stable (Nat.le_refl _) (Nat.le_refl _) ((Same.below hb).mono (Nat.zero_le _) (by omega))⟩
theorem take_list {w : World} {lo hi n c i : Nat} {a : Option Addr} {ops : List OpM} (h : ListAt MopR 4 false lo hi w (.slice a n c) ops) (hi2 : i ≤ ops.length) : ListAt MopR 4 false lo hi w (.slice a i c) (ops.take i) := by
  have hl : (ops.take i).length = i := by simp; omega
  rcases h with ⟨_, h0, a', c', e⟩ | ⟨b, off, c', e, h1, h2, h3, h4⟩
  · subst h0
    have : i = 0 := by simpa using hi2
    subst this
    exact .inl ⟨rfl, rfl, a, c, rfl⟩
  · injection e with e1 _ e3
    subst e1
    subst e3
    refine .inr ⟨b, off, c, by rw [hl], h1, h2, (fun q => by simp at q), fun j hj => ?_⟩
    obtain ⟨row, r1, r2, r3, r4⟩ := h4 j (by omega)
    rw [List.getElem_take]
    exact ⟨row, r1, r2, r3, r4⟩
theorem AnsR.cells {lo hi n c : Nat} {w : World} {a : Option Addr} {xs : List AnsM} (h : AnsR lo hi w (.slice a n c) xs) {m : Nat} (hm : m < xs.length) : ∃ b o ga gc, a = some ⟨b, o, none⟩ ∧ w.cell? ⟨b, o + m * 4 + 3, none⟩ = some (.slice ga xs[m].gone.length gc) ∧ IntsAt lo hi w (.slice ga xs[m].gone.length gc) xs[m].gone := by
  obtain ⟨b, o, c', gv, e, _, _, h1, h2⟩ := h.at_ m hm
  injection e with e1 _ _
  obtain ⟨ga, gc, rfl⟩ := h2.form
  exact ⟨b, o, ga, gc, e1, h1 3 _ rfl, h2⟩
theorem goneM_length2 (obs : List ObM) : (goneM obs).length ≤ obs.length := by
  unfold goneM
  rw [List.length_map]
  exact Nat.le_trans (List.length_filter_le _ _) (by simp)
theorem ansM_gone2 {s : StM} (h : GoodM s) (op : OpM) : (ansM s op).gone.length ≤ 400 := by
  unfold ansM
  simp only
  split
  · have := goneM_length2 s.drained.obs
    rw [drained_len] at this
    have := h.len
    omega
  · simp
theorem ansL_gone2 : ∀ (ops : List OpM) (s : StM), GoodM s → ∀ x ∈ ansL s ops, x.gone.length ≤ 400
  | [], _, _, x, hx => by simp [ansL] at hx
  | op :: ops, s, h, x, hx => by
    rcases List.mem_cons.1 hx with rfl | hx
    · exact ansM_gone2 h op
    · exact ansL_gone2 ops (doM s op) (h.do op) x hx
theorem lt_of_cell {w : World} {b o : Nat} {v : Value} (h : w.cell? ⟨b, o, none⟩ = some v) : b < w.heap.size := block_lt_of_cell h
set_option maxRecDepth 1000000 in
set_option maxHeartbeats 4000000 in
theorem lawMarkGone_calls (C : Option Addr) (len cap : Nat) (w : World) (hc : Code C len w) :
    Calls Try.prog 3 #[.slice C len cap] w fun e w' => e = .returned (.bool true) ∧ Below w.heap.size w w' := by
  have hbg : Hid (∀ W, Calls Try.prog 6 #[.slice C len cap] W fun e w' => e = .returned (.bool (decide ((1048576 : Int) < len))) ∧ w' = W) := fun W => big_calls C len cap W
  by_cases hbig : (1048576 : Int) < len
  · rw [decide_eq_true hbig] at hbg
    go_enter Try.func3, Try.ntmps3
    go_wp2_with (go_at_call 6; refine (show Calls _ _ _ _ _ from hbg.out _).mono ?_; rintro e w1 ⟨rfl, hw⟩; subst hw)
    go_ret
    exact ⟨rfl, Below.refl _ _⟩
  rw [decide_eq_false hbig] at hbg
  have im1 : Hid (∀ (W : World), W.rangeAt w.heap.size 0 [.int .i64 1, .int .i64 0, .int .i64 0, .int .i64 0] → w.heap.size < W.heap.size → Calls Try.prog 7 #[.int .i64 1, .slice (some ⟨w.heap.size, 0, none⟩) 1 1] W fun e w' => (∃ a c, e = .returned (.slice a 1 c)) ∧ Below W.heap.size W w') := fun W h1 h2 => by
    refine (implRun_calls W 1 [⟨1, 0, 0, 0⟩] _ false w.heap.size W.heap.size (.inr ⟨w.heap.size, 0, 1, rfl, Nat.le_refl _, h2, (fun q => by simp at q), fun j hj => ?_⟩) (Nat.le_refl _)).mono ?_
    · have hj0 : j = 0 := by simp at hj; omega
      subst hj0
      exact ⟨_, rfl, h1, rfl, fun q => by simp at q⟩
    · rintro e w' ⟨u, rfl, hA, hb⟩
      obtain ⟨a, c, e⟩ := hA.form
      have : (ansRun 1 [⟨1, 0, 0, 0⟩]).length = 1 := rfl
      rw [this] at e
      exact ⟨⟨a, c, by rw [e]⟩, hb⟩
  have drC : Hid (∀ W, Below w.heap.size w W → Calls Try.prog 8 #[.slice C len cap] W fun e w' => ∃ (mode : Int) (u : Value) (ops : List OpM), e = .returned (.tuple #[.int .i64 mode, u]) ∧ ListAt MopR 4 false W.heap.size w'.heap.size w' u ops ∧ ops.length ≤ 125 ∧ Below W.heap.size W w' ∧ ∃ a c, u = .slice a ops.length c ∧ ops.length ≤ c) := fun W hW => drawRun_calls C len cap W (hc.later hW)
  clear hc
  go_enter Try.func3, Try.ntmps3
  go_wp2_with (go_at_call 6; refine (show Calls _ _ _ _ _ from hbg.out _).mono ?_; rintro e w1 ⟨rfl, hw⟩; subst hw)
  refine (show Calls _ _ _ _ _ from im1.out _ (rangeAt_heap (heap_alloc_new w1 _)) (by simp)).mono ?_
  rintro e w2 ⟨⟨u2, v2, rfl⟩, hb2⟩
  have B2 : Hid (Below w1.heap.size w1 w2) := below_on2 (below_1 _ _) hb2
  clear hb2 im1
  go_wp2_with fail
  refine (show Calls _ _ _ _ _ from drC.out _ B2.out).mono ?_
  rintro e w3 ⟨mode, xv, ops, rfl, X3, hl3, hb3, xa, xc, rfl, hcap⟩
  have B3 : Hid (Below w1.heap.size w1 w3) := below_on2 B2.out hb3
  have hlH : Hid (ops.length ≤ 125) := hl3
  have imC : Hid (∀ W, Below w3.heap.size w3 W → Calls Try.prog 7 #[.int .i64 mode, .slice xa ops.length xc] W fun e w' => ∃ u, e = .returned u ∧ AnsR W.heap.size w'.heap.size w' u (ansRun mode ops) ∧ Below W.heap.size W w') := fun W hW => (implRun_calls W mode ops _ false _ _ (X3.kept MopR.stable (Nat.le_refl _) (Nat.le_refl _) ((Same.below hW).mono (Nat.zero_le _) (Nat.le_refl _))) hW.size).mono fun e w' ⟨u, h1, h2, h3⟩ => ⟨u, h1, h2.ans, h3⟩
  have spC : Hid (∀ W, Below w3.heap.size w3 W → Calls Try.prog 9 #[.int .i64 mode, .slice xa ops.length xc] W fun e w' => ∃ u, e = .returned u ∧ AnsR W.heap.size w'.heap.size w' u (ansRun mode ops) ∧ Below W.heap.size W w') := fun W hW => specRun_calls W mode ops _ false _ _ (X3.kept MopR.stable (Nat.le_refl _) (Nat.le_refl _) ((Same.below hW).mono (Nat.zero_le _) (Nat.le_refl _))) hW.size (by have := hlH.out; omega)
  have X3H : Hid (ListAt MopR 4 false w2.heap.size w3.heap.size w3 (.slice xa ops.length xc) ops) := X3
  clear drC B2 hb3 hl3 X3 hbg
  go_wp2_with fail
  refine (show Calls _ _ _ _ _ from imC.out _ (Below.refl _ _)).mono ?_
  rintro e w4 ⟨ov, rfl, O4, hb4⟩
  obtain ⟨oa, oc, rfl⟩ := O4.form
  clear imC
  go_wp2_with fail
  refine (show Calls _ _ _ _ _ from spC.out _ hb4).mono ?_
  rintro e w5 ⟨pv, rfl, P5, hb5⟩
  obtain ⟨pa, pc, rfl⟩ := P5.form
  have hb35 := below_on2 hb4 hb5
  clear P5
  go_wp2_with fail
  refine (show Calls _ _ _ _ _ from spC.out _ hb35).mono ?_
  rintro e w6 ⟨wv, rfl, P6, hb6⟩
  obtain ⟨wa, wc, rfl⟩ := P6.form
  have L6 : Hid (LgW w1 w6 (ansRun mode ops) ops (.slice oa (ansRun mode ops).length oc) (.slice wa (ansRun mode ops).length wc) (.slice xa ops.length xc) w3.heap.size w4.heap.size w5.heap.size w6.heap.size w2.heap.size w3.heap.size) := by
    have hb36 := below_on2 hb35 hb6
    have hb46 := below_on2 hb5 hb6
    have e5 := hb5.size
    have e6 := hb6.size
    have e36 := hb36.size
    exact ⟨below_on2 B3.out hb36, ⟨by omega, Nat.le_refl _, e36⟩, O4.kept ((Same.below hb46).mono (Nat.zero_le _) (Nat.le_refl _)), P6, ListAt.kept MopR.stable X3H.out (Nat.le_refl _) (Nat.le_refl _) ((Same.below hb36).mono (Nat.zero_le _) (Nat.le_refl _))⟩
  have hgn : Hid (∀ i (hi : i < (ansRun mode ops).length), runOk mode ops.length = true ∧ ∃ hi2 : i < ops.length, ∀ z ∈ (ansRun mode ops)[i].gone, ¬ LvP (atM mode (ops.take i)).os (atM mode (ops.take i)).rs z) := fun i hi => ansRun_gone_not hi
  have hLl : Hid ((ansRun mode ops).length ≤ 125) := by
    show _ ≤ _
    have := hlH.out
    unfold ansRun
    split
    · rw [ansL_length]; exact this
    · simp
  have hgl : Hid (∀ x ∈ ansRun mode ops, x.gone.length ≤ 400) := by
    show ∀ x ∈ _, _
    intro x hx
    unfold ansRun at hx
    split at hx
    · rename_i h
      simp [runOk] at h
      exact ansL_gone2 ops _ (GoodM.new h.1) x hx
    · simp at hx
  generalize ansRun mode ops = L at *
  generalize w3.heap.size = o1 at L6
  generalize w4.heap.size = o2 at L6
  generalize w5.heap.size = p1 at L6
  generalize w6.heap.size = p2 at L6
  generalize w2.heap.size = x1 at L6
  clear B3 hb4 hb5 hb35 hb6 O4 P6 spC X3H
  go_wp2_with fail
  go_loopw [7] (fun iv wr => ∃ m : Nat, m ≤ L.length ∧ iv = .int .i64 m ∧ Hid (LgW w1 wr L ops (.slice oa L.length oc) (.slice wa L.length wc) (.slice xa ops.length xc) o1 o2 p1 p2 x1 o1)) (fun iv _ => L.length - (intOf iv).toNat)
  case atStart => exact ⟨0, Nat.zero_le _, rfl, L6⟩
  case round =>
    clear L6
    obtain ⟨m, hm, rfl, hR⟩ := hrel
    have hm0 : (0 : Int) ≤ m := by omega
    have hLl' : (L.length : Int) ≤ 125 := by have := hLl.out; omega
    by_cases hlt : m < L.length
    · have hlt' : (m : Int) < (L.length : Int) := by omega
      obtain ⟨hok, hm2, hnot⟩ := hgn.out m hlt
      obtain ⟨ob, oo, ga, gc, rfl, c1, i1⟩ := hR.out.O.cells hlt
      obtain ⟨pb, po, ga2, gc2, rfl, c2, i2⟩ := hR.out.P.cells hlt
      have hg4 := hgl.out _ (List.getElem_mem hlt)
      have hnotH : Hid _ := hnot
      have hokH : Hid (runOk mode ops.length = true) := hok
      have i1H : Hid (IntsAt o1 o2 wr (.slice ga L[m].gone.length gc) L[m].gone) := i1
      clear hnot hok i1 i2
      generalize L[m].gone = gone at *
      have hg4' : (gone.length : Int) ≤ 400 := by omega
      go_wp2_with fail
      go_quiet (fail)
      have hR2 : Hid (LgW w1 (wr.drewN nq) L ops (.slice (some ⟨ob, oo, none⟩) L.length oc) (.slice (some ⟨pb, po, none⟩) L.length wc) (.slice xa ops.length xc) o1 o2 p1 p2 x1 o1) := hR.out.on (below_drewN (Below.refl _ _) nq)
      have c3 : (wr.drewN nq).cell? ⟨ob, oo + m * 4 + 3, none⟩ = some (.slice ga gone.length gc) := c1
      have i3 : Hid (IntsAt o1 o2 (wr.drewN nq) (.slice ga gone.length gc) gone) := IntsAt.kept i1H.out ((Same.below (below_drewN (Below.refl wr.heap.size wr) nq)).mono (Nat.zero_le _) (by have := hR.out.n; omega))
      clear c1 c2 hR i1H
      generalize wr.drewN nq = W at *
      by_cases h0 : gone.length = 0
      · have h0' : (gone.length : Int) = 0 := by omega
        go_wp2
        go_roundw
        case rel => exact ⟨m + 1, by omega, by go_num, hR2⟩
        case measure => simp [intOf]; omega
      · have h0' : ¬ ((gone.length : Int) = 0) := by omega
        have hml : (m : Int) ≤ (xc : Int) := by omega
        have spA : Hid (Calls Try.prog 11 #[.int .i64 mode, .slice xa m xc] W fun e w' => ∃ o r q, e = .returned (.agg #[o, r, .bool (atM mode (ops.take m)).cyc, q]) ∧ Below W.heap.size W w' ∧ TellM w' o r q (atM mode (ops.take m))) := by
          refine (specAtF_calls W mode (ops.take m) _ false x1 o1 ?_ hR2.out.n.2.2 (by have := hlH.out; simp; omega)).mono ?_
          · exact take_list hR2.out.X (by omega)
          · rintro e w' ⟨o, r, q, h1, _, h3, h4⟩
            refine ⟨o, r, q, h1, h3, h4 ?_⟩
            have := hokH.out
            simp [runOk] at this ⊢
            omega
        go_wp2_with fail
        refine (show Calls _ _ _ _ _ from spA.out).mono ?_
        rintro e W2 ⟨so, sr, sq, rfl, hb2, hT⟩
        obtain ⟨⟨a0, c0, rfl, hc0, hob⟩, ⟨b1, d1, rfl, hb1, hro⟩, ⟨a3, d3, rfl⟩⟩ := hT
        obtain ⟨sm1, sm2⟩ := atM_small mode (ops.take m)
        have spR : Hid (Calls Try.prog 10 #[.agg #[.slice a0 (atM mode (ops.take m)).os.length c0, .slice (some ⟨b1, 0, none⟩) (atM mode (ops.take m)).rs.length d1, .bool (atM mode (ops.take m)).cyc, .slice a3 (atM mode (ops.take m)).qs.length d3]] W2 fun e w' => ∃ v Z, e = .returned v ∧ IntsAt W2.heap.size w'.heap.size w' v Z ∧ (AscI Z ∧ ∀ z, z ∈ Z ↔ LvP (atM mode (ops.take m)).os (atM mode (ops.take m)).rs z) ∧ Below W2.heap.size W2 w') := specMark_yes (atM mode (ops.take m)) W2 a0 b1 c0 d1 d3 a3 hb1 hc0 hob hro sm2 sm1
        have hR3 : Hid (LgW w1 W2 L ops (.slice (some ⟨ob, oo, none⟩) L.length oc) (.slice (some ⟨pb, po, none⟩) L.length wc) (.slice xa ops.length xc) o1 o2 p1 p2 x1 o1) := hR2.out.on hb2
        have hsz : Hid (oo + m * 4 + 3 = oo + m * 4 + 3 ∧ ob < W.heap.size) := ⟨rfl, lt_of_cell c3⟩
        have c4 : W2.cell? ⟨ob, oo + m * 4 + 3, none⟩ = some (.slice ga gone.length gc) := (hb2.cell (p := ⟨ob, oo + m * 4 + 3, none⟩) hsz.out.2).trans c3
        have i4 : Hid (IntsAt o1 o2 W2 (.slice ga gone.length gc) gone) := i3.out.kept ((Same.below hb2).mono (Nat.zero_le _) (by have := hR2.out.n; omega))
        have hlo : Hid (∀ Z : List Int, (AscI Z ∧ ∀ z, z ∈ Z ↔ LvP (atM mode (ops.take m)).os (atM mode (ops.take m)).rs z) → Z.length ≤ 1048576) := fun Z hZ => by
          have h1 := asc_len (m := (atM mode (ops.take m)).os.map ObP.id) hZ.1 fun z hz => by
            obtain ⟨_, o, ho, e⟩ := ((hZ.2 z).1 hz).has
            rw [← e]
            exact List.mem_map_of_mem ho
          simp only [List.length_map] at h1
          omega
        clear hR2 c3 i3 hsz hb2 hob hro hb1 hc0 spA sm1 sm2
        go_wp2_with fail
        refine (show Calls _ _ _ _ _ from spR.out).mono ?_
        rintro e W3 ⟨lv, Z, rfl, hZ, hZ2, hb3⟩
        obtain ⟨za, zc, rfl⟩ := hZ.form
        have hR4 : Hid (LgW w1 W3 L ops (.slice (some ⟨ob, oo, none⟩) L.length oc) (.slice (some ⟨pb, po, none⟩) L.length wc) (.slice xa ops.length xc) o1 o2 p1 p2 x1 o1) := hR3.out.on hb3
        have hno : Hid (∀ z ∈ gone, z ∉ Z) := fun z hz q => hnotH.out z hz ((hZ2.2 z).1 q)
        have hzl : Hid (Z.length ≤ 1048576) := hlo.out Z hZ2
        have hZH : Hid (IntsAt W2.heap.size W3.heap.size W3 (.slice za Z.length zc) Z) := hZ
        have i5 : Hid (IntsAt o1 o2 W3 (.slice ga gone.length gc) gone) := i4.out.kept ((Same.below hb3).mono (Nat.zero_le _) (by have := hR3.out.n; omega))
        have c5 : W3.cell? ⟨ob, oo + m * 4 + 3, none⟩ = some (.slice ga gone.length gc) := (hb3.cell (p := ⟨ob, oo + m * 4 + 3, none⟩) (lt_of_cell c4)).trans c4
        clear hR3 hb3 hZ hZ2 i4 c4 hlo spR hnotH
        go_wp2_with fail
        go_loopw [9] (fun kv wr => ∃ k : Nat, k ≤ gone.length ∧ kv = .int .i64 k ∧ wr = W3) (fun kv _ => gone.length - (intOf kv).toNat)
        case atStart => exact ⟨0, Nat.zero_le _, rfl, rfl⟩
        case round =>
          obtain ⟨k, hk, rfl, hw⟩ := hrel
          have hw2 := hw.symm
          subst hw2
          clear hw
          have hk0 : (0 : Int) ≤ k := by omega
          by_cases hkl : k < gone.length
          · have hkl' : (k : Int) < (gone.length : Int) := by omega
            obtain ⟨gb, rfl, _, _, c6, _⟩ := i5.out.at k hkl
            have hhn : Hid (Calls Try.prog 12 #[.slice za Z.length zc, .int .i64 gone[k]] W3 fun e w' => e = .returned (.bool false) ∧ w' = W3) := hasNum_no _ Z gone[k] W3 _ _ hZH.out (hno.out _ (List.getElem_mem hkl)) hzl.out
            generalize gone[k] = z at *
            go_wp2_with (go_at_call 12; refine (show Calls _ _ _ _ _ from hhn.out).mono ?_; rintro e w9 ⟨rfl, hw9⟩; subst hw9)
            go_roundw
            case rel => exact ⟨k + 1, by omega, by go_num, by first | trivial | rfl⟩
            case measure => simp [intOf]; omega
          · have hge : ¬ ((k : Int) < (gone.length : Int)) := by omega
            go_wp2
            go_roundw
            case rel => exact ⟨m + 1, by omega, by go_num, hR4⟩
            case measure => simp [intOf]; omega
    · have hge : ¬ ((m : Int) < (L.length : Int)) := by omega
      go_wp2
      go_ret
      exact ⟨rfl, hR.out.hb⟩
end Go.Proofs.Ytcigiilhlealdaa
