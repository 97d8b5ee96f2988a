/- The law of marking in a run, walked. -/
import Derived.Test.YtjlaofoaglifpaaMrI
import Derived.Test.YtjlaofoaglifpaaMrD
import Derived.Test.YtjlaofoaglifpaaKmI
namespace Go.Proofs.Ytjlaofoaglifpaa
set_option linter.unusedVariables false
open Go.ChangeShapes Go.WideShapes Go.ChangeAt Go.RowKit

theorem goneM_length (obs : List ObM) : (goneM obs).length ≤ obs.length := by
  unfold goneM
  rw [List.length_map]
  exact Nat.le_trans (List.length_filter_le _ _) (by simp)
theorem ansM_gone {s : StM} (h : GoodM s) (op : OpM) : (ansM s op).gone.length ≤ 400 := by
  unfold ansM
  simp only
  split
  · have := goneM_length s.drained.obs
    rw [drained_len] at this
    have := h.len
    omega
  · simp
theorem ansL_gone : ∀ (ops : List OpM) (s : StM), GoodM s → ∀ x ∈ ansL s ops, x.gone.length ≤ 400
  | [], _, _, x, hx => by simp [ansL] at hx
  | op :: ops, s, h, x, hx => by
    rcases List.mem_cons.1 hx with rfl | hx
    · exact ansM_gone h op
    · exact ansL_gone ops (doM s op) (h.do op) x hx
theorem ansRun_gone (mode : Int) (ops : List OpM) : ∀ x ∈ ansRun mode ops, x.gone.length ≤ 400 := fun x hx => by
  unfold ansRun at hx
  split at hx
  · rename_i h
    simp [runOk] at h
    exact ansL_gone ops _ (GoodM.new h.1) x hx
  · simp at hx
theorem ansRun_length (mode : Int) (ops : List OpM) : (ansRun mode ops).length ≤ 500 := by
  unfold ansRun
  split
  · rename_i h
    simp [runOk] at h
    rw [ansL_length]
    exact h.2
  · simp
theorem AnsX.kept {lo hi : Nat} {w w' : World} {v : Value} {xs : List AnsM} {b c : Nat} {cut : Nat → Nat} {gs : List Value} (h : AnsX lo hi w v xs b c cut gs) (hs : Same lo hi w w') (hz : w.heap.size ≤ w'.heap.size) : AnsX lo hi w' v xs b c cut gs := by
  have hl := h.lo
  have c1 := cut_le h.mono (Nat.zero_le xs.length) (Nat.le_refl _)
  refine ⟨h.form, by omega, h.mono, there_same hs hl.1 (by omega) h.room, fun j hj => ?_⟩
  obtain ⟨g, e, r, i⟩ := h.cells j hj
  have d0 := cut_le h.mono (Nat.zero_le j) (Nat.le_of_lt hj)
  have d1 := cut_le h.mono (show j + 1 ≤ xs.length from hj) (Nat.le_refl _)
  exact ⟨g, e, rangeAt_same hs hl.1 (by omega) r, i.kept (hs.mono (by omega) (by omega))⟩
theorem AnsO.kept {lo hi : Nat} {w w' : World} {v : Value} {xs : List AnsM} (h : AnsO lo hi w v xs) (hs : Same lo hi w w') (hz : w.heap.size ≤ w'.heap.size) : AnsO lo hi w' v xs := ⟨h.form, by
  rcases h.row with e | ⟨b, c, cut, gs, q⟩
  · exact .inl e
  · exact .inr ⟨b, c, cut, gs, q.kept hs hz⟩⟩
set_option maxRecDepth 100000 in
set_option maxHeartbeats 1000000 in
theorem markNone_calls (a : Option Addr) (c : Nat) (k : Int) (w : World) : Calls Try.prog 18 #[.slice a 0 c, .int .i64 k] w fun e w' => e = .returned (.int .i64 k) ∧ w' = w := by
  go_enter Try.func18, Try.ntmps18
  go_wp2
  go_loopw [1, 5] (fun kv i wr => kv = .int .i64 k ∧ i = .int .i64 0 ∧ wr = w) (fun _ i _ => (intOf i).toNat)
  case atStart => exact ⟨rfl, rfl, rfl⟩
  case round =>
    obtain ⟨rfl, rfl, hw⟩ := hrel
    have hw2 := hw.symm
    subst hw2
    go_wp2
    go_ret
    exact ⟨rfl, by first | trivial | rfl⟩
theorem markAns_calls {lo hi : Nat} {w : World} {v : Value} {xs : List AnsM} (h : AnsO lo hi w v xs) (k : Int) (hk0 : 0 ≤ k) (hk1 : k ≤ 1000000) (hn : xs.length ≤ 500) (hg : ∀ x ∈ xs, x.gone.length ≤ 400) :
    Calls Try.prog 18 #[v, .int .i64 k] w fun e w' => e = .returned (.int .i64 (k + szA xs)) ∧ Touch lo hi w w' ∧ AnsR lo hi w' v (markA k xs) := by
  rcases h.row with rfl | ⟨b, c, cut, gs, q⟩
  · obtain ⟨a, c, rfl⟩ := h.form
    refine (markNone_calls a c k w).mono ?_
    rintro e w' ⟨rfl, rfl⟩
    exact ⟨by simp [szA], Touch.refl _ _ _, ⟨a, c, rfl⟩, fun j hj => by simp [markA] at hj⟩
  · have hf := q.form
    subst hf
    refine (markObsS_calls xs k w lo hi b c cut gs q hk0 hk1 hn hg).mono ?_
    rintro e w' ⟨he, ht, hx⟩
    refine ⟨he, ht, ?_⟩
    have := hx.ans
    exact this
/-- What the law holds: the specification's answer, its own ops, the program's answer. -/
structure LQ (w W : World) (L : List AnsM) (ops : List OpM) (sv xv gv : Value) (s1 s2 s3 s4 : Nat) : Prop where
  hb : Below w.heap.size w W
  n : w.heap.size ≤ s1 ∧ s1 ≤ s2 ∧ s2 ≤ s3 ∧ s3 ≤ s4 ∧ s4 ≤ W.heap.size
  S : AnsR s1 s2 W sv L
  X : ListAt MopR 4 true s2 s3 W xv ops
  G : AnsO s3 s4 W gv L
theorem LQ.on {w W W' : World} {L : List AnsM} {ops : List OpM} {sv xv gv : Value} {s1 s2 s3 s4 : Nat} (h : LQ w W L ops sv xv gv s1 s2 s3 s4) (hb : Below W.heap.size W W') : LQ w W' L ops sv xv gv s1 s2 s3 s4 := by
  have n := h.n
  have := hb.size
  exact ⟨below_on2 h.hb hb, by omega, h.S.kept ((Same.below hb).mono (Nat.zero_le _) (by omega)), h.X.kept MopR.stable (Nat.le_refl _) (Nat.le_refl _) ((Same.below hb).mono (Nat.zero_le _) (by omega)), h.G.kept ((Same.below hb).mono (Nat.zero_le _) (by omega)) hb.size⟩
/-- Behind the ops' marks. -/
structure LU (w W : World) (L : List AnsM) (sv gv : Value) (s1 s2 s3 s4 : Nat) : Prop where
  hb : Below w.heap.size w W
  n : w.heap.size ≤ s1 ∧ s1 ≤ s2 ∧ s2 ≤ s3 ∧ s3 ≤ s4 ∧ s4 ≤ W.heap.size
  S : AnsR s1 s2 W sv L
  G : AnsO s3 s4 W gv L
theorem LU.on {w W W' : World} {L : List AnsM} {sv gv : Value} {s1 s2 s3 s4 : Nat} (h : LU w W L sv gv s1 s2 s3 s4) (hb : Below W.heap.size W W') : LU w W' L sv gv s1 s2 s3 s4 := by
  have n := h.n
  have := hb.size
  exact ⟨below_on2 h.hb hb, by omega, h.S.kept ((Same.below hb).mono (Nat.zero_le _) (by omega)), h.G.kept ((Same.below hb).mono (Nat.zero_le _) (by omega)) hb.size⟩
/-- Behind the answer's marks. -/
structure LV (w W : World) (L M : List AnsM) (sv gv : Value) (s1 s2 s3 s4 : Nat) : Prop where
  hb : Below w.heap.size w W
  n : w.heap.size ≤ s1 ∧ s1 ≤ s2 ∧ s2 ≤ s3 ∧ s3 ≤ s4 ∧ s4 ≤ W.heap.size
  S : AnsR s1 s2 W sv L
  G : AnsR s3 s4 W gv M
theorem LV.on {w W W' : World} {L M : List AnsM} {sv gv : Value} {s1 s2 s3 s4 : Nat} (h : LV w W L M sv gv s1 s2 s3 s4) (hb : Below W.heap.size W W') : LV w W' L M sv gv s1 s2 s3 s4 := by
  have n := h.n
  have := hb.size
  exact ⟨below_on2 h.hb hb, by omega, h.S.kept ((Same.below hb).mono (Nat.zero_le _) (by omega)), h.G.kept ((Same.below hb).mono (Nat.zero_le _) (by omega))⟩
set_option maxRecDepth 1000000 in
set_option maxHeartbeats 4000000 in
theorem lawMarkRun_calls (mode : Int) (ops : List OpM) (v : Value) (w : World) (h0 : ListAt MopR 4 false 0 w.heap.size w v ops) (hu : ops.length ≤ 9223372036854775807) :
    Calls Try.prog 4 #[.int .i64 mode, v] w fun e w' => e = .returned (.bool true) ∧ Below w.heap.size w w' := by
  have szH : Hid (∀ W, Below w.heap.size w W → Calls Try.prog 13 #[v, .int .i64 1048576] W fun e w' => SzQ 1048576 ops.length e ∧ Below W.heap.size W w') := fun W hW => szMopS_calls ops hu W v false 0 w.heap.size 1048576 hW.size (h0.kept MopR.stable (Nat.le_refl _) (Nat.le_refl _) (Same.below hW)) (by omega) (by omega)
  by_cases hbig : (1048576 : Int) < ops.length
  · clear h0
    go_enter Try.func4, Try.ntmps4
    go_wp2_with (first | (go_at_call 13; refine (show Calls _ _ _ _ _ from szH.out _ (Below.refl _ _)).mono ?_; rintro e w1 ⟨⟨r, rfl, hr1, hr2⟩, hb1⟩; obtain rfl := hr1 hbig))
    go_ret
    exact ⟨rfl, hb1⟩
  have hoN : ops.length ≤ 1048576 := by omega
  have toO : Hid (∀ W, Below w.heap.size w W → Calls Try.prog 14 #[v] W fun e w' => ∃ u, e = .returned u ∧ ListAt MopR 4 true W.heap.size w'.heap.size w' u ops ∧ Below W.heap.size W w') := fun W hW => toMopS_calls v ops W w.heap.size hW.size (h0.kept MopR.stable (Nat.le_refl _) (Nat.le_refl _) (Same.below hW)) hoN (fun x _ => toMop_calls x w.heap.size)
  have spC : Hid (∀ (W : World) (u : Value) (lo hi : Nat), hi ≤ W.heap.size → ListAt MopR 4 true lo hi W u ops → Calls Try.prog 9 #[.int .i64 mode, u] W fun e w' => ∃ v, e = .returned v ∧ AnsR W.heap.size w'.heap.size w' v (ansRun mode ops) ∧ Below W.heap.size W w') := fun W u lo hi a b => specRun_calls W mode ops u true lo hi b a hoN
  have imC : Hid (∀ (W : World) (u : Value) (lo hi : Nat), hi ≤ W.heap.size → ListAt MopR 4 true lo hi W u ops → Calls Try.prog 7 #[.int .i64 mode, u] W fun e w' => ∃ v, e = .returned v ∧ AnsO W.heap.size w'.heap.size w' v (ansRun mode ops) ∧ Below W.heap.size W w') := fun W u lo hi a b => implRun_calls W mode ops u true lo hi b a
  have hgl := ansRun_gone mode ops
  have hln := ansRun_length mode ops
  generalize ansRun mode ops = L at *
  have eqA : Hid (∀ (W : World) (u v : Value) (l1 g1 l2 g2 : Nat), g1 ≤ W.heap.size → g2 ≤ W.heap.size → AnsR l1 g1 W u L → AnsR l2 g2 W v L → Calls Try.prog 15 #[u, v] W fun e w' => e = .returned (.bool true) ∧ Below W.heap.size W w') := fun W u v l1 g1 l2 g2 a b c d => eqObsS_calls u v L W l1 g1 l2 g2 a b c d hln hgl
  have eqO : Hid (∀ (W : World) (u v : Value) (l1 g1 l2 g2 : Nat), g1 ≤ W.heap.size → g2 ≤ W.heap.size → ListAt MopR 4 true l1 g1 W u ops → ListAt MopR 4 true l2 g2 W v ops → Calls Try.prog 16 #[u, v] W fun e w' => e = .returned (.bool true) ∧ Below W.heap.size W w') := fun W u v l1 g1 l2 g2 a b c d => eqMopS_calls u v ops W l1 g1 l2 g2 a b c d hoN (fun x _ => eqMop_calls x)
  have mkO : Hid (∀ (W : World) (u : Value) (l g : Nat), g ≤ W.heap.size → ListAt MopR 4 true l g W u ops → Calls Try.prog 17 #[u, .int .i64 1] W fun e w' => (∃ r : Int, e = .returned (.int .i64 r) ∧ 0 ≤ r) ∧ Touch l g W w') := fun W u l g a b => markMopS_calls u ops 1 W l g b a (by omega) (by omega) hoN
  have mkA : Hid (∀ (W : World) (u : Value) (l g : Nat), AnsO l g W u L → Calls Try.prog 18 #[u, .int .i64 1] W fun e w' => e = .returned (.int .i64 (1 + szA L)) ∧ Touch l g W w' ∧ AnsR l g w' u (markA 1 L)) := fun W u l g a => markAns_calls a 1 (by omega) (by omega) hln hgl
  have hdA : Hid (∀ (W : World) (u : Value) (l g : Nat), AnsR l g W u (markA 1 L) → Calls Try.prog 19 #[u, .int .i64 1] W fun e w' => e = .returned (.int .i64 (1 + szA L)) ∧ w' = W) := fun W u l g a => heldObsS_calls u L 1 W l g a (by omega) (by omega) hln hgl
  obtain ⟨a0, c0, rfl⟩ := h0.form
  have hz := szA_bound L hgl
  have hz2 : (szA L : Int) ≤ 201500 := by omega
  have hpos : (0 : Int) ≤ 1048576 - (ops.length : Nat) := by omega
  have hq : ((1 : Int) + szA L != 1 + szA L) = false := by simp
  have hq0 : ¬ ((1 : Int) + szA L < 0) := by omega
  clear h0 hu hgl hln hz
  go_enter Try.func4, Try.ntmps4
  go_wp2_with fail
  refine (show Calls _ _ _ _ _ from szH.out _ (Below.refl _ _)).mono ?_
  rintro e w1 ⟨⟨r, rfl, -, hr2⟩, hb1⟩
  obtain rfl := hr2 (by omega)
  clear hr2 szH
  go_wp2_with fail
  refine (show Calls _ _ _ _ _ from toO.out _ hb1).mono ?_
  rintro e w2 ⟨u1, rfl, U1, hb2⟩
  go_wp2_with fail
  refine (show Calls _ _ _ _ _ from spC.out _ u1 _ _ (Nat.le_refl _) U1).mono ?_
  rintro e w3 ⟨sv, rfl, S3, hb3⟩
  have B3 := below_on2 (below_on2 hb1 hb2) hb3
  have q2 : w.heap.size ≤ w2.heap.size := Nat.le_trans hb1.size hb2.size
  clear U1 hb1 hb2 spC
  go_wp2_with fail
  refine (show Calls _ _ _ _ _ from toO.out _ B3).mono ?_
  rintro e w4 ⟨xv, rfl, X4, hb4⟩
  go_wp2_with fail
  refine (show Calls _ _ _ _ _ from imC.out _ xv _ _ (Nat.le_refl _) X4).mono ?_
  rintro e w5 ⟨gv, rfl, G5, hb5⟩
  have L5 : Hid (LQ w w5 L ops sv xv gv w2.heap.size w3.heap.size w4.heap.size w5.heap.size) := by
    have e2 := hb3.size
    have e3 := hb4.size
    have e4 := hb5.size
    have hb35 := below_on2 hb4 hb5
    exact ⟨below_on2 B3 hb35, by omega, S3.kept ((Same.below hb35).mono (Nat.zero_le _) (Nat.le_refl _)), X4.kept MopR.stable (Nat.le_refl _) (Nat.le_refl _) ((Same.below hb5).mono (Nat.zero_le _) (Nat.le_refl _)), G5⟩
  clear S3 hb3 B3 X4 hb4 G5 hb5 q2
  generalize w2.heap.size = s1 at L5
  generalize w3.heap.size = s2 at L5
  generalize w4.heap.size = s3 at L5
  generalize w5.heap.size = s4 at L5
  go_wp2_with fail
  refine (show Calls _ _ _ _ _ from eqA.out _ gv sv s3 s4 s1 s2 (by have := L5.out.n; omega) (by have := L5.out.n; omega) L5.out.G.ans L5.out.S).mono ?_
  rintro e w6 ⟨rfl, hb6⟩
  have L6 : Hid (LQ w w6 L ops sv xv gv s1 s2 s3 s4) := L5.out.on hb6
  clear L5 hb6
  go_wp2_with fail
  refine (show Calls _ _ _ _ _ from toO.out _ L6.out.hb).mono ?_
  rintro e w7 ⟨u3, rfl, U3, hb7⟩
  have L7 : Hid (LQ w w7 L ops sv xv gv s1 s2 s3 s4) := L6.out.on hb7
  go_wp2_with fail
  refine (show Calls _ _ _ _ _ from eqO.out _ xv u3 s2 s3 w6.heap.size w7.heap.size (by have := L7.out.n; omega) (Nat.le_refl _) L7.out.X U3).mono ?_
  rintro e w8 ⟨rfl, hb8⟩
  have L8 : Hid (LQ w w8 L ops sv xv gv s1 s2 s3 s4) := L7.out.on hb8
  clear L6 L7 U3 hb7 hb8
  go_wp2_with fail
  refine (show Calls _ _ _ _ _ from mkO.out _ xv s2 s3 (by have := L8.out.n; omega) L8.out.X).mono ?_
  rintro e w9 ⟨⟨r, rfl, hr0⟩, T9⟩
  have M9 : Hid (LU w w9 L sv gv s1 s2 s3 s4) := by
    have n := L8.out.n
    have := T9.1
    exact ⟨L8.out.hb.trans (T9.2.1.mono (by omega)), by omega, L8.out.S.kept (T9.same (by omega) (.inl (by omega))), L8.out.G.kept (T9.same (by omega) (.inr (by omega))) T9.1⟩
  have hr1 : ¬ (r < 0) := by omega
  clear L8 T9 mkO
  go_wp2_with fail
  refine (show Calls _ _ _ _ _ from eqA.out _ gv sv s3 s4 s1 s2 (by have := M9.out.n; omega) (by have := M9.out.n; omega) M9.out.G.ans M9.out.S).mono ?_
  rintro e w10 ⟨rfl, hb10⟩
  have M10 : Hid (LU w w10 L sv gv s1 s2 s3 s4) := M9.out.on hb10
  clear M9 hb10
  go_wp2_with fail
  refine (show Calls _ _ _ _ _ from mkA.out _ gv s3 s4 M10.out.G).mono ?_
  rintro e w11 ⟨rfl, T11, G11⟩
  have M11 : Hid (LV w w11 L (markA 1 L) sv gv s1 s2 s3 s4) := by
    have n := M10.out.n
    have := T11.1
    exact ⟨M10.out.hb.trans (T11.2.1.mono (by omega)), by omega, M10.out.S.kept (T11.same (by omega) (.inl (by omega))), G11⟩
  clear M10 T11 G11 mkA
  go_wp2_with fail
  refine (show Calls _ _ _ _ _ from hdA.out _ gv s3 s4 M11.out.G).mono ?_
  rintro e w12 ⟨rfl, hw12⟩
  subst w12
  go_wp2_with fail
  refine (show Calls _ _ _ _ _ from toO.out _ M11.out.hb).mono ?_
  rintro e w13 ⟨u5, rfl, U5, hb13⟩
  have M13 : Hid (LV w w13 L (markA 1 L) sv gv s1 s2 s3 s4) := M11.out.on hb13
  go_wp2_with fail
  refine (show Calls _ _ _ _ _ from imC.out _ u5 _ _ (Nat.le_refl _) U5).mono ?_
  rintro e w14 ⟨hv, rfl, H14, hb14⟩
  have M14 : Hid (LV w w14 L (markA 1 L) sv gv s1 s2 s3 s4) := M13.out.on hb14
  clear M11 M13 U5 hb13 hb14
  go_wp2_with fail
  refine (show Calls _ _ _ _ _ from eqA.out _ hv sv w13.heap.size w14.heap.size s1 s2 (Nat.le_refl _) (by have := M14.out.n; omega) H14.ans M14.out.S).mono ?_
  rintro e w15 ⟨rfl, hb15⟩
  have M15 : Hid (LV w w15 L (markA 1 L) sv gv s1 s2 s3 s4) := M14.out.on hb15
  clear M14 H14 hb15
  go_wp2_with fail
  refine (show Calls _ _ _ _ _ from hdA.out _ gv s3 s4 M15.out.G).mono ?_
  rintro e w16 ⟨rfl, hw16⟩
  subst w16
  go_wp2
  go_ret
  exact ⟨rfl, M15.out.hb⟩
end Go.Proofs.Ytjlaofoaglifpaa
