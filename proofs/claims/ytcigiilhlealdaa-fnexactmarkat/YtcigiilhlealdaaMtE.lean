/- The law of a marked heap behind ops. -/
import Derived.Test.YtcigiilhlealdaaMtD
namespace Go.Proofs.Ytcigiilhlealdaa
set_option linter.unusedVariables false
open Go.ChangeShapes Go.WideShapes Go.ChangeAt Go.RowKit

def hpC (o r : Value) (c : Bool) (q : Value) : List Value := [o, r, .bool c, q]
theorem rangeK {w w' : World} {b : Nat} {cs : List Value} (h : w.rangeAt b 0 cs) (hb : b < w.heap.size) (hs : ∀ p : Addr, p.block = b → w'.cell? p = w.cell? p) : w'.rangeAt b 0 cs := fun j v hj => (hs ⟨b, 0 + j, none⟩ rfl).trans (h j v hj)
/-- What the law holds: the specification's answer in its box, its own ops, the program's answer in its box. -/
structure AQ (w W : World) (x : HpM) (ops : List OpM) (so sr sq xv go gr gq : Value) (s1 s2 bs t1 t2 t3 bg : Nat) : Prop where
  hb : Below w.heap.size w W
  n : w.heap.size ≤ s1 ∧ s1 ≤ s2 ∧ s2 ≤ bs ∧ bs < t1 ∧ t1 ≤ t2 ∧ t2 ≤ t3 ∧ t3 ≤ bg ∧ bg < W.heap.size
  S : HpR s1 s2 W so sr sq x.os x.rs x.qs
  SB : W.rangeAt bs 0 (hpC so sr x.cyc sq)
  X : ListAt MopR 4 true t1 t2 W xv ops
  G : HpO t2 t3 W go gr gq x
  GB : W.rangeAt bg 0 (hpC go gr x.cyc gq)
theorem AQ.on {w W W' : World} {x : HpM} {ops : List OpM} {so sr sq xv go gr gq : Value} {s1 s2 bs t1 t2 t3 bg : Nat} (h : AQ w W x ops so sr sq xv go gr gq s1 s2 bs t1 t2 t3 bg) (hb : Below W.heap.size W W') : AQ w W' x ops so sr sq xv go gr gq s1 s2 bs t1 t2 t3 bg := by
  have n := h.n
  have := hb.size
  exact ⟨below_on2 h.hb hb, by omega, h.S.kept ((Same.below hb).mono (Nat.zero_le _) (by omega)), rangeB hb (by omega) h.SB, h.X.kept MopR.stable (Nat.le_refl _) (Nat.le_refl _) ((Same.below hb).mono (Nat.zero_le _) (by omega)), h.G.kept ((Same.below hb).mono (Nat.zero_le _) (by omega)) hb.size, rangeB hb (by omega) h.GB⟩
/-- Behind the ops' marks. -/
structure AU (w W : World) (x : HpM) (so sr sq go gr gq : Value) (s1 s2 bs t2 t3 bg : Nat) : Prop where
  hb : Below w.heap.size w W
  n : w.heap.size ≤ s1 ∧ s1 ≤ s2 ∧ s2 ≤ bs ∧ bs < t2 ∧ t2 ≤ t3 ∧ t3 ≤ bg ∧ bg < W.heap.size
  S : HpR s1 s2 W so sr sq x.os x.rs x.qs
  SB : W.rangeAt bs 0 (hpC so sr x.cyc sq)
  G : HpO t2 t3 W go gr gq x
  GB : W.rangeAt bg 0 (hpC go gr x.cyc gq)
theorem AU.on {w W W' : World} {x : HpM} {so sr sq go gr gq : Value} {s1 s2 bs t2 t3 bg : Nat} (h : AU w W x so sr sq go gr gq s1 s2 bs t2 t3 bg) (hb : Below W.heap.size W W') : AU w W' x so sr sq go gr gq s1 s2 bs t2 t3 bg := by
  have n := h.n
  have := hb.size
  exact ⟨below_on2 h.hb hb, by omega, h.S.kept ((Same.below hb).mono (Nat.zero_le _) (by omega)), rangeB hb (by omega) h.SB, h.G.kept ((Same.below hb).mono (Nat.zero_le _) (by omega)) hb.size, rangeB hb (by omega) h.GB⟩
/-- Behind the answer's marks. -/
structure AV (w W : World) (x : HpM) (so sr sq go gr gq : Value) (s1 s2 bs t2 t3 bg : Nat) : Prop where
  hb : Below w.heap.size w W
  n : w.heap.size ≤ s1 ∧ s1 ≤ s2 ∧ s2 ≤ bs ∧ bs < t2 ∧ t2 ≤ t3 ∧ t3 ≤ bg ∧ bg < W.heap.size
  S : HpR s1 s2 W so sr sq x.os x.rs x.qs
  SB : W.rangeAt bs 0 (hpC so sr x.cyc sq)
  G : HpR t2 t3 W go gr gq (markP 1 x.os) (iota (1 + szP x.os) x.rs.length) (iota (1 + szP x.os + x.rs.length) x.qs.length)
  GB : W.rangeAt bg 0 (hpC go gr x.cyc gq)
theorem AV.on {w W W' : World} {x : HpM} {so sr sq go gr gq : Value} {s1 s2 bs t2 t3 bg : Nat} (h : AV w W x so sr sq go gr gq s1 s2 bs t2 t3 bg) (hb : Below W.heap.size W W') : AV w W' x so sr sq go gr gq s1 s2 bs t2 t3 bg := by
  have n := h.n
  have := hb.size
  exact ⟨below_on2 h.hb hb, by omega, h.S.kept ((Same.below hb).mono (Nat.zero_le _) (by omega)), rangeB hb (by omega) h.SB, h.G.kept ((Same.below hb).mono (Nat.zero_le _) (by omega)), rangeB hb (by omega) h.GB⟩
theorem HpR.forms {lo hi : Nat} {w : World} {o r q : Value} {os : List ObP} {rs qs : List Int} (h : HpR lo hi w o r q os rs qs) : (∃ a n c, o = .slice a n c) ∧ (∃ a n c, r = .slice a n c) ∧ ∃ a n c, q = .slice a n c := by
  obtain ⟨a, c, e⟩ := h.o.form
  obtain ⟨a', c', e'⟩ := h.r.form
  obtain ⟨a2, c2, e2⟩ := h.q.form
  exact ⟨⟨_, _, _, e⟩, ⟨_, _, _, e'⟩, ⟨_, _, _, e2⟩⟩
set_option maxRecDepth 1000000 in
set_option maxHeartbeats 4000000 in
theorem lawMarkAt_calls (mode : Int) (ops : List OpM) (v : Value) (w : World) (h0 : ListAt MopR 4 false 0 w.heap.size w v ops) (hu : ops.length ≤ 9223372036854775807) :
    Calls Try.prog 5 #[.int .i64 mode, v] w fun e w' => e = .returned (.bool true) ∧ Below w.heap.size w w' := by
  have szH : Hid (∀ W, Below w.heap.size w W → Calls Try.prog 13 #[v, .int .i64 1048576] W fun e w' => SzQ 1048576 ops.length e ∧ Below W.heap.size W w') := fun W hW => szMopS_calls ops hu W v false 0 w.heap.size 1048576 hW.size (h0.kept MopR.stable (Nat.le_refl _) (Nat.le_refl _) (Same.below hW)) (by omega) (by omega)
  by_cases hbig : (1048576 : Int) < ops.length
  · clear h0
    go_enter Try.func5, Try.ntmps5
    go_wp2_with (first | (go_at_call 13; refine (show Calls _ _ _ _ _ from szH.out _ (Below.refl _ _)).mono ?_; rintro e w1 ⟨⟨r, rfl, hr1, hr2⟩, hb1⟩; obtain rfl := hr1 hbig))
    go_ret
    exact ⟨rfl, hb1⟩
  have hoN : ops.length ≤ 1048576 := by omega
  have toO : Hid (∀ W, Below w.heap.size w W → Calls Try.prog 14 #[v] W fun e w' => ∃ u, e = .returned u ∧ ListAt MopR 4 true W.heap.size w'.heap.size w' u ops ∧ Below W.heap.size W w') := fun W hW => toMopS_calls v ops W w.heap.size hW.size (h0.kept MopR.stable (Nat.le_refl _) (Nat.le_refl _) (Same.below hW)) hoN (fun x _ => toMop_calls x w.heap.size)
  have spC : Hid (∀ (W : World) (u : Value) (lo hi : Nat), hi ≤ W.heap.size → ListAt MopR 4 true lo hi W u ops → Calls Try.prog 11 #[.int .i64 mode, u] W fun e w' => ∃ o r q, e = .returned (.agg #[o, r, .bool (atM mode ops).cyc, q]) ∧ HpR W.heap.size w'.heap.size w' o r q (atM mode ops).os (atM mode ops).rs (atM mode ops).qs ∧ Below W.heap.size W w') := fun W u lo hi a b => specAt_calls W mode ops u true lo hi b a hoN
  have imC : Hid (∀ (W : World) (u : Value) (lo hi : Nat), hi ≤ W.heap.size → ListAt MopR 4 true lo hi W u ops → Calls Try.prog 20 #[.int .i64 mode, u] W fun e w' => ∃ o r q, e = .returned (.agg #[o, r, .bool (atM mode ops).cyc, q]) ∧ HpO W.heap.size w'.heap.size w' o r q (atM mode ops) ∧ Below W.heap.size W w') := fun W u lo hi a b => implAt_calls W mode ops u true lo hi b a
  obtain ⟨x1, x2, x3, x4⟩ := atM_bounds mode ops
  generalize atM mode ops = x at *
  have eqA : Hid (∀ (W : World) (o1 r1 q1 o2 r2 q2 : Value) (l1 g1 l2 g2 : Nat), g1 ≤ W.heap.size → g2 ≤ W.heap.size → HpR l1 g1 W o1 r1 q1 x.os x.rs x.qs → HpR l2 g2 W o2 r2 q2 x.os x.rs x.qs → Calls Try.prog 21 #[.agg #[o1, r1, .bool x.cyc, q1], .agg #[o2, r2, .bool x.cyc, q2]] W fun e w' => e = .returned (.bool true) ∧ Below W.heap.size W w') := fun W o1 r1 q1 o2 r2 q2 l1 g1 l2 g2 a b c d => eqHeap_calls o1 r1 q1 o2 r2 q2 x.cyc x.os x.rs x.qs W l1 g1 l2 g2 a b c d x1 x2 x3 x4
  have eqO : Hid (∀ (W : World) (u v : Value) (l1 g1 l2 g2 : Nat), g1 ≤ W.heap.size → g2 ≤ W.heap.size → ListAt MopR 4 true l1 g1 W u ops → ListAt MopR 4 true l2 g2 W v ops → Calls Try.prog 16 #[u, v] W fun e w' => e = .returned (.bool true) ∧ Below W.heap.size W w') := fun W u v l1 g1 l2 g2 a b c d => eqMopS_calls u v ops W l1 g1 l2 g2 a b c d hoN (fun x _ => eqMop_calls x)
  have mkO : Hid (∀ (W : World) (u : Value) (l g : Nat), g ≤ W.heap.size → ListAt MopR 4 true l g W u ops → Calls Try.prog 17 #[u, .int .i64 1] W fun e w' => (∃ r : Int, e = .returned (.int .i64 r) ∧ 0 ≤ r) ∧ Touch l g W w') := fun W u l g a b => markMopS_calls u ops 1 W l g b a (by omega) (by omega) hoN
  have mkA : Hid (∀ (W : World) (o r q : Value) (l g : Nat), l ≤ W.heap.size → HpO l g W o r q x → Calls Try.prog 22 #[.agg #[o, r, .bool x.cyc, q], .int .i64 1] W fun e w' => e = .returned (.int .i64 (1 + szP x.os + x.rs.length + x.qs.length)) ∧ Touch l g W w' ∧ HpR l g w' o r q (markP 1 x.os) (iota (1 + szP x.os) x.rs.length) (iota (1 + szP x.os + x.rs.length) x.qs.length)) := fun W o r q l g hl a => markHpO_calls a hl 1 (by omega) (by omega) x1 x2 x3 x4
  have hdA : Hid (∀ (W : World) (o r q : Value) (l g : Nat), g ≤ W.heap.size → HpR l g W o r q (markP 1 x.os) (iota (1 + szP x.os) x.rs.length) (iota (1 + szP x.os + x.rs.length) x.qs.length) → Calls Try.prog 23 #[.agg #[o, r, .bool x.cyc, q], .int .i64 1] W fun e w' => e = .returned (.int .i64 (1 + szP x.os + x.rs.length + x.qs.length)) ∧ Below W.heap.size W w') := fun W o r q l g hg a => heldHeap_calls o r q x.cyc x.os x.rs.length x.qs.length 1 W l g hg a (by omega) (by omega) x1 x2 x3 x4
  obtain ⟨a0, c0, rfl⟩ := h0.form
  have hz := szP_bound x.os x2
  obtain ⟨tot, htot⟩ : ∃ tot : Int, tot = 1 + szP x.os + x.rs.length + x.qs.length := ⟨_, rfl⟩
  rw [← htot] at mkA hdA
  have hz2 : tot ≤ 201500 := by omega
  have hpos : (0 : Int) ≤ 1048576 - (ops.length : Nat) := by omega
  have hq : (tot != tot) = false := by simp
  have hq0 : ¬ (tot < 0) := by omega
  clear h0 hu x1 x2 x3 x4 hz htot
  go_enter Try.func5, Try.ntmps5
  go_wp2_with fail
  refine (show Calls _ _ _ _ _ from szH.out _ (Below.refl _ _)).mono ?_
  rintro e w1 ⟨⟨r, rfl, -, hr2⟩, hb1⟩
  obtain rfl := hr2 (by omega)
  clear hr2 szH
  go_wp2_with fail
  refine (show Calls _ _ _ _ _ from toO.out _ hb1).mono ?_
  rintro e w2 ⟨u1, rfl, U1, hb2⟩
  go_wp2_with fail
  refine (show Calls _ _ _ _ _ from spC.out _ u1 _ _ (Nat.le_refl _) U1).mono ?_
  rintro e w3 ⟨so, sr, sq, rfl, S3, hb3⟩
  obtain ⟨⟨sa1, sn1, sc1, rfl⟩, ⟨sa2, sn2, sc2, rfl⟩, ⟨sa3, sn3, sc3, rfl⟩⟩ := S3.forms
  have B3 := below_on2 (below_on2 hb1 hb2) hb3
  have q2 : w.heap.size ≤ w2.heap.size := Nat.le_trans hb1.size hb2.size
  have B3b : Below w.heap.size w (w3.alloc (.cells #[.slice sa1 sn1 sc1, .slice sa2 sn2 sc2, .bool x.cyc, .slice sa3 sn3 sc3] 37)) := below_on2 B3 (below_1 _ _)
  have SB3 : (w3.alloc (.cells #[.slice sa1 sn1 sc1, .slice sa2 sn2 sc2, .bool x.cyc, .slice sa3 sn3 sc3] 37)).rangeAt w3.heap.size 0 (hpC (.slice sa1 sn1 sc1) (.slice sa2 sn2 sc2) x.cyc (.slice sa3 sn3 sc3)) := rangeAt_heap (heap_alloc_new w3 _)
  have S3b := S3.kept ((Same.below (below_1 w3 (.cells #[.slice sa1 sn1 sc1, .slice sa2 sn2 sc2, .bool x.cyc, .slice sa3 sn3 sc3] 37))).mono (Nat.zero_le _) (Nat.le_refl _))
  have z3 : (w3.alloc (.cells #[.slice sa1 sn1 sc1, .slice sa2 sn2 sc2, .bool x.cyc, .slice sa3 sn3 sc3] 37)).heap.size = w3.heap.size + 1 := World.size_alloc _ _
  have z3b := hb3.size
  have z3H : Hid _ := z3
  clear U1 hb1 hb2 hb3 spC S3 B3 z3
  go_wp2_with fail
  generalize w3.alloc (.cells #[.slice sa1 sn1 sc1, .slice sa2 sn2 sc2, .bool x.cyc, .slice sa3 sn3 sc3] 37) = W3 at *
  generalize w3.heap.size = bs at *
  have z3 := z3H.out
  refine (show Calls _ _ _ _ _ from toO.out _ B3b).mono ?_
  rintro e w4 ⟨xv, rfl, X4, hb4⟩
  have z3H : Hid (W3.heap.size = bs + 1) := z3
  clear z3
  go_wp2_with fail
  refine (show Calls _ _ _ _ _ from imC.out _ xv _ _ (Nat.le_refl _) X4).mono ?_
  rintro e w5 ⟨go, gr, gq, rfl, G5, hb5⟩
  obtain ⟨⟨ga1, gn1, gc1, rfl⟩, ⟨ga2, gn2, gc2, rfl⟩, ⟨ga3, gn3, gc3, rfl⟩⟩ := G5.read.forms
  have L5 : Hid (AQ w (w5.alloc (.cells #[.slice ga1 gn1 gc1, .slice ga2 gn2 gc2, .bool x.cyc, .slice ga3 gn3 gc3] 37)) x ops (.slice sa1 sn1 sc1) (.slice sa2 sn2 sc2) (.slice sa3 sn3 sc3) xv (.slice ga1 gn1 gc1) (.slice ga2 gn2 gc2) (.slice ga3 gn3 gc3) w2.heap.size bs bs W3.heap.size w4.heap.size w5.heap.size w5.heap.size) := by
    have e3 := hb4.size
    have e4 := hb5.size
    have e0 := z3H.out
    have hb6 := below_1 w5 (.cells #[.slice ga1 gn1 gc1, .slice ga2 gn2 gc2, .bool x.cyc, .slice ga3 gn3 gc3] 37)
    have hb45 := below_on2 hb4 hb5
    have hb46 := below_on2 hb45 hb6
    have hb56 := below_on2 hb5 hb6
    have e6 : (w5.alloc (.cells #[.slice ga1 gn1 gc1, .slice ga2 gn2 gc2, .bool x.cyc, .slice ga3 gn3 gc3] 37)).heap.size = w5.heap.size + 1 := World.size_alloc _ _
    exact ⟨below_on2 B3b hb46, by omega, S3b.kept ((Same.below hb46).mono (Nat.zero_le _) (by omega)), rangeB hb46 (by omega) SB3, X4.kept MopR.stable (Nat.le_refl _) (Nat.le_refl _) ((Same.below hb56).mono (Nat.zero_le _) (Nat.le_refl _)), G5.kept ((Same.below hb6).mono (Nat.zero_le _) (Nat.le_refl _)) hb6.size, rangeAt_heap (heap_alloc_new w5 _)⟩
  clear S3b SB3 z3H z3b B3b X4 hb4 G5 hb5 q2
  go_upto_region 8 with fail
  generalize w5.alloc (.cells #[.slice ga1 gn1 gc1, .slice ga2 gn2 gc2, .bool x.cyc, .slice ga3 gn3 gc3] 37) = W5 at *
  generalize w2.heap.size = s1 at L5
  generalize W3.heap.size = t1 at L5
  generalize w4.heap.size = t2 at L5
  generalize w5.heap.size = bg at *
  have k0 : W5.cell? ⟨bg, 0, none⟩ = some (.slice ga1 gn1 gc1) := (L5.out.GB) 0 _ rfl
  have k1 : W5.cell? ⟨bg, 1, none⟩ = some (.slice ga2 gn2 gc2) := (L5.out.GB) 1 _ rfl
  have k2 : W5.cell? ⟨bg, 2, none⟩ = some (.bool x.cyc) := (L5.out.GB) 2 _ rfl
  have k3 : W5.cell? ⟨bg, 3, none⟩ = some (.slice ga3 gn3 gc3) := (L5.out.GB) 3 _ rfl
  have j0 : W5.cell? ⟨bs, 0, none⟩ = some (.slice sa1 sn1 sc1) := (L5.out.SB) 0 _ rfl
  have j1 : W5.cell? ⟨bs, 1, none⟩ = some (.slice sa2 sn2 sc2) := (L5.out.SB) 1 _ rfl
  have j2 : W5.cell? ⟨bs, 2, none⟩ = some (.bool x.cyc) := (L5.out.SB) 2 _ rfl
  have j3 : W5.cell? ⟨bs, 3, none⟩ = some (.slice sa3 sn3 sc3) := (L5.out.SB) 3 _ rfl
  go_wp2_with fail
  refine (show Calls _ _ _ _ _ from eqA.out _ _ _ _ _ _ _ t2 bg s1 bs (by have := L5.out.n; omega) (by have := L5.out.n; omega) L5.out.G.read L5.out.S).mono ?_
  rintro e w6 ⟨rfl, hb6⟩
  have L6 : Hid (AQ w w6 x ops (.slice sa1 sn1 sc1) (.slice sa2 sn2 sc2) (.slice sa3 sn3 sc3) xv (.slice ga1 gn1 gc1) (.slice ga2 gn2 gc2) (.slice ga3 gn3 gc3) s1 bs bs t1 t2 bg bg) := L5.out.on hb6
  clear L5 hb6 k0 k1 k2 k3 j0 j1 j2 j3
  go_wp2_with fail
  refine (show Calls _ _ _ _ _ from toO.out _ L6.out.hb).mono ?_
  rintro e w7 ⟨u3, rfl, U3, hb7⟩
  have L7 : Hid (AQ w w7 x ops (.slice sa1 sn1 sc1) (.slice sa2 sn2 sc2) (.slice sa3 sn3 sc3) xv (.slice ga1 gn1 gc1) (.slice ga2 gn2 gc2) (.slice ga3 gn3 gc3) s1 bs bs t1 t2 bg bg) := L6.out.on hb7
  go_wp2_with fail
  refine (show Calls _ _ _ _ _ from eqO.out _ xv u3 t1 t2 w6.heap.size w7.heap.size (by have := L7.out.n; omega) (Nat.le_refl _) L7.out.X U3).mono ?_
  rintro e w8 ⟨rfl, hb8⟩
  have L8 : Hid (AQ w w8 x ops (.slice sa1 sn1 sc1) (.slice sa2 sn2 sc2) (.slice sa3 sn3 sc3) xv (.slice ga1 gn1 gc1) (.slice ga2 gn2 gc2) (.slice ga3 gn3 gc3) s1 bs bs t1 t2 bg bg) := L7.out.on hb8
  clear L6 L7 U3 hb7 hb8
  go_wp2_with fail
  refine (show Calls _ _ _ _ _ from mkO.out _ xv t1 t2 (by have := L8.out.n; omega) L8.out.X).mono ?_
  rintro e w9 ⟨⟨r, rfl, hr0⟩, T9⟩
  have M9 : Hid (AU w w9 x (.slice sa1 sn1 sc1) (.slice sa2 sn2 sc2) (.slice sa3 sn3 sc3) (.slice ga1 gn1 gc1) (.slice ga2 gn2 gc2) (.slice ga3 gn3 gc3) s1 bs bs t2 bg bg) := by
    have n := L8.out.n
    have := T9.1
    exact ⟨L8.out.hb.trans (T9.2.1.mono (by omega)), by omega, L8.out.S.kept (T9.same (by omega) (.inl (by omega))), rangeT T9 (by omega) (by omega) L8.out.SB, L8.out.G.kept (T9.same (by omega) (.inr (by omega))) T9.1, rangeT T9 (by omega) (by omega) L8.out.GB⟩
  have hr1 : ¬ (r < 0) := by omega
  clear L8 T9 mkO
  have k0 : w9.cell? ⟨bg, 0, none⟩ = some (.slice ga1 gn1 gc1) := (M9.out.GB) 0 _ rfl
  have k1 : w9.cell? ⟨bg, 1, none⟩ = some (.slice ga2 gn2 gc2) := (M9.out.GB) 1 _ rfl
  have k2 : w9.cell? ⟨bg, 2, none⟩ = some (.bool x.cyc) := (M9.out.GB) 2 _ rfl
  have k3 : w9.cell? ⟨bg, 3, none⟩ = some (.slice ga3 gn3 gc3) := (M9.out.GB) 3 _ rfl
  have j0 : w9.cell? ⟨bs, 0, none⟩ = some (.slice sa1 sn1 sc1) := (M9.out.SB) 0 _ rfl
  have j1 : w9.cell? ⟨bs, 1, none⟩ = some (.slice sa2 sn2 sc2) := (M9.out.SB) 1 _ rfl
  have j2 : w9.cell? ⟨bs, 2, none⟩ = some (.bool x.cyc) := (M9.out.SB) 2 _ rfl
  have j3 : w9.cell? ⟨bs, 3, none⟩ = some (.slice sa3 sn3 sc3) := (M9.out.SB) 3 _ rfl
  go_wp2_with fail
  refine (show Calls _ _ _ _ _ from eqA.out _ _ _ _ _ _ _ t2 bg s1 bs (by have := M9.out.n; omega) (by have := M9.out.n; omega) M9.out.G.read M9.out.S).mono ?_
  rintro e w10 ⟨rfl, hb10⟩
  have M10 : Hid (AU w w10 x (.slice sa1 sn1 sc1) (.slice sa2 sn2 sc2) (.slice sa3 sn3 sc3) (.slice ga1 gn1 gc1) (.slice ga2 gn2 gc2) (.slice ga3 gn3 gc3) s1 bs bs t2 bg bg) := M9.out.on hb10
  clear M9 hb10 k0 k1 k2 k3 j0 j1 j2 j3
  have k0 : w10.cell? ⟨bg, 0, none⟩ = some (.slice ga1 gn1 gc1) := (M10.out.GB) 0 _ rfl
  have k1 : w10.cell? ⟨bg, 1, none⟩ = some (.slice ga2 gn2 gc2) := (M10.out.GB) 1 _ rfl
  have k2 : w10.cell? ⟨bg, 2, none⟩ = some (.bool x.cyc) := (M10.out.GB) 2 _ rfl
  have k3 : w10.cell? ⟨bg, 3, none⟩ = some (.slice ga3 gn3 gc3) := (M10.out.GB) 3 _ rfl
  go_wp2_with fail
  refine (show Calls _ _ _ _ _ from mkA.out _ _ _ _ t2 bg (by have := M10.out.n; omega) M10.out.G).mono ?_
  rintro e w11 ⟨rfl, T11, G11⟩
  have M11 : Hid (AV w w11 x (.slice sa1 sn1 sc1) (.slice sa2 sn2 sc2) (.slice sa3 sn3 sc3) (.slice ga1 gn1 gc1) (.slice ga2 gn2 gc2) (.slice ga3 gn3 gc3) s1 bs bs t2 bg bg) := by
    have n := M10.out.n
    have := T11.1
    exact ⟨M10.out.hb.trans (T11.2.1.mono (by omega)), by omega, M10.out.S.kept (T11.same (by omega) (.inl (by omega))), rangeT T11 (by omega) (by omega) M10.out.SB, G11, rangeT T11 (by omega) (by omega) M10.out.GB⟩
  clear M10 T11 G11 mkA k0 k1 k2 k3
  have k0 : w11.cell? ⟨bg, 0, none⟩ = some (.slice ga1 gn1 gc1) := (M11.out.GB) 0 _ rfl
  have k1 : w11.cell? ⟨bg, 1, none⟩ = some (.slice ga2 gn2 gc2) := (M11.out.GB) 1 _ rfl
  have k2 : w11.cell? ⟨bg, 2, none⟩ = some (.bool x.cyc) := (M11.out.GB) 2 _ rfl
  have k3 : w11.cell? ⟨bg, 3, none⟩ = some (.slice ga3 gn3 gc3) := (M11.out.GB) 3 _ rfl
  go_wp2_with fail
  refine (show Calls _ _ _ _ _ from hdA.out _ _ _ _ t2 bg (by have := M11.out.n; omega) M11.out.G).mono ?_
  rintro e w12 ⟨rfl, hb12⟩
  have M12 : Hid (AV w w12 x (.slice sa1 sn1 sc1) (.slice sa2 sn2 sc2) (.slice sa3 sn3 sc3) (.slice ga1 gn1 gc1) (.slice ga2 gn2 gc2) (.slice ga3 gn3 gc3) s1 bs bs t2 bg bg) := M11.out.on hb12
  clear M11 hb12 k0 k1 k2 k3
  go_wp2_with fail
  refine (show Calls _ _ _ _ _ from toO.out _ M12.out.hb).mono ?_
  rintro e w13 ⟨u5, rfl, U5, hb13⟩
  have M13 : Hid (AV w w13 x (.slice sa1 sn1 sc1) (.slice sa2 sn2 sc2) (.slice sa3 sn3 sc3) (.slice ga1 gn1 gc1) (.slice ga2 gn2 gc2) (.slice ga3 gn3 gc3) s1 bs bs t2 bg bg) := M12.out.on hb13
  clear M12 hb13
  go_wp2_with fail
  refine (show Calls _ _ _ _ _ from imC.out _ u5 _ _ (Nat.le_refl _) U5).mono ?_
  rintro e w14 ⟨ho, hr, hq2, rfl, H14, hb14⟩
  obtain ⟨⟨ha1, hn1, hc1, rfl⟩, ⟨ha2, hn2, hc2, rfl⟩, ⟨ha3, hn3, hc3, rfl⟩⟩ := H14.read.forms
  have hb14a := below_1 w14 (.cells #[.slice ha1 hn1 hc1, .slice ha2 hn2 hc2, .bool x.cyc, .slice ha3 hn3 hc3] 37)
  have M14 : Hid (AV w (w14.alloc (.cells #[.slice ha1 hn1 hc1, .slice ha2 hn2 hc2, .bool x.cyc, .slice ha3 hn3 hc3] 37)) x (.slice sa1 sn1 sc1) (.slice sa2 sn2 sc2) (.slice sa3 sn3 sc3) (.slice ga1 gn1 gc1) (.slice ga2 gn2 gc2) (.slice ga3 gn3 gc3) s1 bs bs t2 bg bg) := M13.out.on (below_on2 hb14 hb14a)
  have H14H : Hid (HpR w13.heap.size w14.heap.size (w14.alloc (.cells #[.slice ha1 hn1 hc1, .slice ha2 hn2 hc2, .bool x.cyc, .slice ha3 hn3 hc3] 37)) (.slice ha1 hn1 hc1) (.slice ha2 hn2 hc2) (.slice ha3 hn3 hc3) x.os x.rs x.qs) := H14.read.kept ((Same.below hb14a).mono (Nat.zero_le _) (Nat.le_refl _))
  have hz14 : Hid (w14.heap.size ≤ (w14.alloc (.cells #[.slice ha1 hn1 hc1, .slice ha2 hn2 hc2, .bool x.cyc, .slice ha3 hn3 hc3] 37)).heap.size) := hb14a.size
  clear M13 U5 hb14 hb14a H14
  go_upto_region 25 with fail
  have i0 : (w14.alloc (.cells #[.slice ha1 hn1 hc1, .slice ha2 hn2 hc2, .bool x.cyc, .slice ha3 hn3 hc3] 37)).cell? ⟨w14.heap.size, 0, none⟩ = some (.slice ha1 hn1 hc1) := rangeAt_heap (heap_alloc_new w14 _) 0 _ rfl
  have i1 : (w14.alloc (.cells #[.slice ha1 hn1 hc1, .slice ha2 hn2 hc2, .bool x.cyc, .slice ha3 hn3 hc3] 37)).cell? ⟨w14.heap.size, 1, none⟩ = some (.slice ha2 hn2 hc2) := rangeAt_heap (heap_alloc_new w14 _) 1 _ rfl
  have i2 : (w14.alloc (.cells #[.slice ha1 hn1 hc1, .slice ha2 hn2 hc2, .bool x.cyc, .slice ha3 hn3 hc3] 37)).cell? ⟨w14.heap.size, 2, none⟩ = some (.bool x.cyc) := rangeAt_heap (heap_alloc_new w14 _) 2 _ rfl
  have i3 : (w14.alloc (.cells #[.slice ha1 hn1 hc1, .slice ha2 hn2 hc2, .bool x.cyc, .slice ha3 hn3 hc3] 37)).cell? ⟨w14.heap.size, 3, none⟩ = some (.slice ha3 hn3 hc3) := rangeAt_heap (heap_alloc_new w14 _) 3 _ rfl
  generalize w14.alloc (.cells #[.slice ha1 hn1 hc1, .slice ha2 hn2 hc2, .bool x.cyc, .slice ha3 hn3 hc3] 37) = W14 at *
  generalize w14.heap.size = bh at *
  have j0 : W14.cell? ⟨bs, 0, none⟩ = some (.slice sa1 sn1 sc1) := (M14.out.SB) 0 _ rfl
  have j1 : W14.cell? ⟨bs, 1, none⟩ = some (.slice sa2 sn2 sc2) := (M14.out.SB) 1 _ rfl
  have j2 : W14.cell? ⟨bs, 2, none⟩ = some (.bool x.cyc) := (M14.out.SB) 2 _ rfl
  have j3 : W14.cell? ⟨bs, 3, none⟩ = some (.slice sa3 sn3 sc3) := (M14.out.SB) 3 _ rfl
  go_wp2_with fail
  refine (show Calls _ _ _ _ _ from eqA.out _ _ _ _ _ _ _ w13.heap.size bh s1 bs hz14.out (by have := M14.out.n; omega) H14H.out M14.out.S).mono ?_
  rintro e w15 ⟨rfl, hb15⟩
  have M15 : Hid (AV w w15 x (.slice sa1 sn1 sc1) (.slice sa2 sn2 sc2) (.slice sa3 sn3 sc3) (.slice ga1 gn1 gc1) (.slice ga2 gn2 gc2) (.slice ga3 gn3 gc3) s1 bs bs t2 bg bg) := M14.out.on hb15
  clear M14 H14H hb15 hz14 i0 i1 i2 i3 j0 j1 j2 j3
  have k0 : w15.cell? ⟨bg, 0, none⟩ = some (.slice ga1 gn1 gc1) := (M15.out.GB) 0 _ rfl
  have k1 : w15.cell? ⟨bg, 1, none⟩ = some (.slice ga2 gn2 gc2) := (M15.out.GB) 1 _ rfl
  have k2 : w15.cell? ⟨bg, 2, none⟩ = some (.bool x.cyc) := (M15.out.GB) 2 _ rfl
  have k3 : w15.cell? ⟨bg, 3, none⟩ = some (.slice ga3 gn3 gc3) := (M15.out.GB) 3 _ rfl
  go_wp2_with fail
  refine (show Calls _ _ _ _ _ from hdA.out _ _ _ _ t2 bg (by have := M15.out.n; omega) M15.out.G).mono ?_
  rintro e w16 ⟨rfl, hb16⟩
  have M16 : Hid (AV w w16 x (.slice sa1 sn1 sc1) (.slice sa2 sn2 sc2) (.slice sa3 sn3 sc3) (.slice ga1 gn1 gc1) (.slice ga2 gn2 gc2) (.slice ga3 gn3 gc3) s1 bs bs t2 bg bg) := M15.out.on hb16
  clear M15 hb16 k0 k1 k2 k3
  go_wp2
  go_ret
  exact ⟨rfl, M16.out.hb⟩
end Go.Proofs.Ytcigiilhlealdaa
