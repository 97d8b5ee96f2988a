/- What the law of Order holds; the answers of both sides. -/
import Derived.Test.YtknbchheoloaoaaGreatSbC
import Derived.Test.YtknbchheoloaoaaGreatSbD
import Derived.Test.YtknbchheoloaoaaGreatSbE
import Derived.Test.YtknbchheoloaoaaGreatSaL
import Derived.Test.YtknbchheoloaoaaGreatSoTd
namespace Go.Proofs.YtknbchheoloaoaaGreat
set_option linter.unusedVariables false
open Go.ChangeShapes Go.WideShapes Go.ChangeAt Go.RowKit
noncomputable def dsOf (x : LitL) (zs : List Int) : List DoneL := if litB x = true then runS x (startS x.thr.length x.vars.toNat) (zs.take 4000) else []
noncomputable def rsOf (x : LitL) (zs : List Int) : List RaceL := if litB x = true then (specRaces x (dsOf x zs) (dsOf x zs).length).foldl insR [] else []
theorem dsOf_len (x : LitL) (zs : List Int) : (dsOf x zs).length ≤ 12 := by
 unfold dsOf
 split
 ·rename_i h
  have := runS_len (lit_ok h).1 (zs.take 4000) _ (wf_start (lit_ok h).1)
  omega
 ·simp
theorem rsOf_len (x : LitL) (zs : List Int) : (rsOf x zs).length ≤ 5000 := by
 unfold rsOf
 split
 ·have h1 := foldIns_len (specRaces x (dsOf x zs) (dsOf x zs).length) []
  have h2 := specRaces_len x (dsOf x zs) (dsOf x zs).length (dsOf_len x zs) (dsOf_len x zs)
  simp only [List.length_nil] at h1
  omega
 ·simp
theorem ordN_forms {lo hi : Nat} {w : World} {v1 v2 : Value} {n1 n2 : Nat} {z1 z2 : List Int} (h : OrdN lo hi w (.agg #[v1, v2]) n1 z1 n2 z2) : ∃ a1 c1 a2 c2, v1 = .slice a1 n1 c1 ∧ v2 = .slice a2 n2 c2 := by
 obtain ⟨u1, u2, _, _, _, _, e, h1, h2, _⟩ := h
 have e1 : v1 = u1 ∧ v2 = u2 := by injection e with e; simpa using e
 obtain ⟨a1, c1, q1⟩ := h1.form
 obtain ⟨a2, c2, q2⟩ := h2.form
 exact ⟨a1, c1, a2, c2, e1.1.trans q1, e1.2.trans q2⟩
theorem ordN_nil (lo hi : Nat) (w : World) (h : lo ≤ hi) : OrdN lo hi w (.agg #[.slice none 0 0, .slice none 0 0]) 0 [] 0 [] :=
 ⟨_, _, lo, lo, lo, lo, rfl, ⟨rfl, .inl ⟨rfl, none, 0, rfl⟩⟩, ⟨rfl, .inl ⟨rfl, none, 0, rfl⟩⟩, Nat.le_refl _, h, Nat.le_refl _, h, .inl (Nat.le_refl _)⟩
def OrdQ (lo : Nat) (W : World) (x : LitL) (zs : List Int) (e : Ending) (w' : World) : Prop := ∃ a1 c1 a2 c2, e = .returned (.agg #[.slice a1 (dsOf x zs).length c1, .slice a2 (rsOf x zs).length c2]) ∧ OrdN lo w'.heap.size w' (.agg #[.slice a1 (dsOf x zs).length c1, .slice a2 (rsOf x zs).length c2]) (dsOf x zs).length (doneZ (dsOf x zs)) (rsOf x zs).length (raceZ (rsOf x zs)) ∧ Below W.heap.size W w'
theorem ordQ_of {lo : Nat} {W w' : World} {x : LitL} {zs : List Int} {v1 v2 : Value} (hl : litB x = true) (h1 : w'.ownsRow lo 53 2 v1 (dsOf x zs).length (doneV (dsOf x zs))) (h2 : RacesAt lo w' v2 ((specRaces x (dsOf x zs) (dsOf x zs).length).foldl insR [])) (hb : Below W.heap.size W w') (hlo : lo ≤ w'.heap.size) : OrdQ lo W x zs (.returned (.agg #[v1, v2])) w' := by
 have e : (specRaces x (dsOf x zs) (dsOf x zs).length).foldl insR [] = rsOf x zs := by unfold rsOf; rw [if_pos hl]
 rw [e] at h2
 have h := ordN_of h1 h2 (Nat.le_refl _) hlo
 obtain ⟨a1, c1, a2, c2, rfl, rfl⟩ := ordN_forms h
 exact ⟨a1, c1, a2, c2, rfl, h, hb⟩
theorem ordQ_no {lo : Nat} {W w' : World} {x : LitL} {zs : List Int} (hl : litB x = false) (hb : Below W.heap.size W w') (hlo : lo ≤ w'.heap.size) : OrdQ lo W x zs (.returned (.agg #[.slice none 0 0, .slice none 0 0])) w' := by
 have e1 : dsOf x zs = [] := by unfold dsOf; rw [hl]; rfl
 have e2 : rsOf x zs = [] := by unfold rsOf; rw [hl]; rfl
 unfold OrdQ
 rw [e1, e2]
 exact ⟨none, 0, none, 0, rfl, ordN_nil _ _ _ hlo, hb⟩
theorem specOrder_calls (x : LitL) (ta : Option Addr) (tc : Nat) (u : Value) (zs : List Int) (w : World) (lo hi lo2 hi2 : Nat) (hh : hi ≤ w.heap.size) (hh2 : hi2 ≤ w.heap.size) (hx : ListAt ThrR 1 true lo hi w (.slice ta x.thr.length tc) x.thr) (hz : ListAt IntR 1 true lo2 hi2 w u zs) (hzl : zs.length ≤ 1048576) (hs : x.small) :
  Calls Tryz.prog 5 #[.agg #[.int .i64 x.vars, .int .i64 x.vol, .int .i64 x.locks, .slice ta x.thr.length tc], u] w fun e w' => OrdQ 0 w x zs e w' := by
 obtain ⟨za, zc, rfl⟩ := hz.form
 cases hl : litB x with
 | true =>
  have ed : dsOf x zs = runS x (startS x.thr.length x.vars.toNat) (zs.take 4000) := by unfold dsOf; rw [if_pos hl]
  refine (specOrder_yes x ta tc za zc zs w lo hi lo2 hi2 hh hh2 hx hz hzl hs hl _ ed).mono ?_
  rintro e w' ⟨v1, v2, rfl, h1, h2, hb⟩
  exact ordQ_of hl h1 h2 hb (Nat.zero_le _)
 | false =>
  refine (specOrder_no x ta tc _ w lo hi hh hx hs hl).mono ?_
  rintro e w' ⟨rfl, hb⟩
  exact ordQ_no hl hb (Nat.zero_le _)
theorem implOrder_calls (x : LitL) (ta : Option Addr) (tc : Nat) (u : Value) (zs : List Int) (w : World) (lo hi lo2 hi2 : Nat) (hh : hi ≤ w.heap.size) (hh2 : hi2 ≤ w.heap.size) (hx : ListAt ThrR 1 true lo hi w (.slice ta x.thr.length tc) x.thr) (hz : ListAt IntR 1 true lo2 hi2 w u zs) (hzl : zs.length ≤ 1048576) (hs : x.small) :
  Calls Tryz.prog 8 #[.agg #[.int .i64 x.vars, .int .i64 x.vol, .int .i64 x.locks, .slice ta x.thr.length tc], u] w fun e w' => OrdQ w.heap.size w x zs e w' := by
 obtain ⟨za, zc, rfl⟩ := hz.form
 cases hl : litB x with
 | true =>
  have ed : dsOf x zs = runS x (startS x.thr.length x.vars.toNat) (zs.take 4000) := by unfold dsOf; rw [if_pos hl]
  by_cases h4 : zs.length ≤ 4000
  ·refine (implOrder_few inOrder_calls x ta tc za zc zs w lo hi lo2 hi2 hh hh2 hx hz hzl hs hl h4 _ ed).mono ?_
   rintro e w' ⟨v1, v2, rfl, h1, h2, hb⟩
   exact ordQ_of hl h1 h2 hb hb.size
  ·refine (implOrder_many inOrder_calls x ta tc za zc zs w lo hi lo2 hi2 hh hh2 hx hz hzl hs hl (by omega) _ ed).mono ?_
   rintro e w' ⟨v1, v2, rfl, h1, h2, hb⟩
   exact ordQ_of hl h1 h2 hb hb.size
 | false =>
  refine (implOrder_no x ta tc _ w lo hi hh hx hs hl).mono ?_
  rintro e w' ⟨rfl, hb⟩
  exact ordQ_no hl hb hb.size
structure LT (w W : World) (bx : List Value) (sv1 sv2 gv1 gv2 : Value) (n1 : Nat) (z1 : List Int) (n2 : Nat) (z2 y1 y2 : List Int) (s2 Bs s7 s8 Bg : Nat) : Prop where
 hb : Below w.heap.size w W
 n : w.heap.size < s2 ∧ s2 ≤ Bs ∧ Bs < s7 ∧ s7 ≤ s8 ∧ s8 ≤ Bg ∧ Bg < W.heap.size
 A : W.rangeAt w.heap.size 0 bx
 S : OrdN 0 s2 W (.agg #[sv1, sv2]) n1 z1 n2 z2
 SB : W.rangeAt Bs 0 [sv1, sv2]
 G : OrdN s7 s8 W (.agg #[gv1, gv2]) n1 y1 n2 y2
 GB : W.rangeAt Bg 0 [gv1, gv2]
theorem rangeT {W W' : World} {a b g : Nat} {cs : List Value} (hT : Touch a b W W') (hg : g < W.heap.size) (hd : g < a ∨ b ≤ g) (h : W.rangeAt g 0 cs) : W'.rangeAt g 0 cs := fun j v hj => ((hT.2.2 ⟨g, 0 + j, none⟩ hg).1 hd).trans (h j v hj)
theorem rangeB {W W' : World} {g : Nat} {cs : List Value} (hb : Below W.heap.size W W') (hg : g < W.heap.size) (h : W.rangeAt g 0 cs) : W'.rangeAt g 0 cs := fun j v hj => (hb.cell (p := ⟨g, 0 + j, none⟩) hg).trans (h j v hj)
theorem LT.on {w W W' : World} {bx : List Value} {sv1 sv2 gv1 gv2 : Value} {n1 n2 : Nat} {z1 z2 y1 y2 : List Int} {s2 Bs s7 s8 Bg : Nat} (h : LT w W bx sv1 sv2 gv1 gv2 n1 z1 n2 z2 y1 y2 s2 Bs s7 s8 Bg) (hb : Below W.heap.size W W') : LT w W' bx sv1 sv2 gv1 gv2 n1 z1 n2 z2 y1 y2 s2 Bs s7 s8 Bg := by
 have n := h.n
 have := hb.size
 exact ⟨below_on2 h.hb hb, by omega, rangeB hb (by omega) h.A, h.S.kept ((Same.below hb).mono (Nat.zero_le _) (by omega)), rangeB hb (by omega) h.SB, h.G.kept ((Same.below hb).mono (Nat.zero_le _) (by omega)), rangeB hb (by omega) h.GB⟩
theorem LT.touch {w W W' : World} {bx : List Value} {sv1 sv2 gv1 gv2 : Value} {n1 n2 : Nat} {z1 z2 y1 y2 : List Int} {s2 Bs s7 s8 Bg : Nat} {a b : Nat} (h : LT w W bx sv1 sv2 gv1 gv2 n1 z1 n2 z2 y1 y2 s2 Bs s7 s8 Bg) (hT : Touch a b W W') (h1 : Bs < a) (h2 : b ≤ s7) : LT w W' bx sv1 sv2 gv1 gv2 n1 z1 n2 z2 y1 y2 s2 Bs s7 s8 Bg := by
 have n := h.n
 have := hT.1
 exact ⟨h.hb.trans (hT.2.1.mono (by omega)), by omega, rangeT hT (by omega) (by omega) h.A, h.S.kept (hT.same (by omega) (.inl (by omega))), rangeT hT (by omega) (by omega) h.SB, h.G.kept (hT.same (by omega) (.inr h2)), rangeT hT (by omega) (by omega) h.GB⟩
theorem LT.mark {w W W' : World} {bx : List Value} {sv1 sv2 gv1 gv2 : Value} {n1 n2 : Nat} {z1 z2 y1 y2 : List Int} {s2 Bs s7 s8 Bg : Nat} {x1 x2 : List Int} (h : LT w W bx sv1 sv2 gv1 gv2 n1 z1 n2 z2 y1 y2 s2 Bs s7 s8 Bg) (hT : Touch s7 s8 W W') (hG : OrdN s7 s8 W' (.agg #[gv1, gv2]) n1 x1 n2 x2) : LT w W' bx sv1 sv2 gv1 gv2 n1 z1 n2 z2 x1 x2 s2 Bs s7 s8 Bg := by
 have n := h.n
 have := hT.1
 exact ⟨h.hb.trans (hT.2.1.mono (by omega)), by omega, rangeT hT (by omega) (by omega) h.A, h.S.kept (hT.same (by omega) (.inl (by omega))), rangeT hT (by omega) (by omega) h.SB, hG, rangeT hT (by omega) (by omega) h.GB⟩
theorem LT.sb {w W : World} {bx : List Value} {sv1 sv2 gv1 gv2 : Value} {n1 n2 : Nat} {z1 z2 y1 y2 : List Int} {s2 Bs s7 s8 Bg : Nat} (h : LT w W bx sv1 sv2 gv1 gv2 n1 z1 n2 z2 y1 y2 s2 Bs s7 s8 Bg) : W.cell? ⟨Bs, 0, none⟩ = some sv1 ∧ W.cell? ⟨Bs, 1, none⟩ = some sv2 := ⟨h.SB 0 _ rfl, h.SB 1 _ rfl⟩
theorem LT.gb {w W : World} {bx : List Value} {sv1 sv2 gv1 gv2 : Value} {n1 n2 : Nat} {z1 z2 y1 y2 : List Int} {s2 Bs s7 s8 Bg : Nat} (h : LT w W bx sv1 sv2 gv1 gv2 n1 z1 n2 z2 y1 y2 s2 Bs s7 s8 Bg) : W.cell? ⟨Bg, 0, none⟩ = some gv1 ∧ W.cell? ⟨Bg, 1, none⟩ = some gv2 := ⟨h.GB 0 _ rfl, h.GB 1 _ rfl⟩
structure XS (W : World) (x : LitL) (zs : List Int) (xa : Option Addr) (xc : Nat) (x1 : Value) (s3 s4 Bx s5 s6 : Nat) : Prop where
 n : s3 ≤ s4 ∧ s4 ≤ Bx ∧ Bx < s5 ∧ s5 ≤ s6 ∧ s6 ≤ W.heap.size
 X0 : ListAt ThrR 1 true s3 s4 W (.slice xa x.thr.length xc) x.thr
 XB : W.rangeAt Bx 0 [.int .i64 x.vars, .int .i64 x.vol, .int .i64 x.locks, .slice xa x.thr.length xc]
 X1 : ListAt IntR 1 true s5 s6 W x1 zs
theorem XS.on {W W' : World} {x : LitL} {zs : List Int} {xa : Option Addr} {xc : Nat} {x1 : Value} {s3 s4 Bx s5 s6 : Nat} (h : XS W x zs xa xc x1 s3 s4 Bx s5 s6) (hb : Below W.heap.size W W') : XS W' x zs xa xc x1 s3 s4 Bx s5 s6 := by
 have n := h.n
 have := hb.size
 exact ⟨by omega, h.X0.kept ThrR.stable (Nat.le_refl _) (Nat.le_refl _) ((Same.below hb).mono (Nat.zero_le _) (by omega)), rangeB hb (by omega) h.XB, h.X1.kept IntR.stable (Nat.le_refl _) (Nat.le_refl _) ((Same.below hb).mono (Nat.zero_le _) (by omega))⟩
theorem XS.xb {W : World} {x : LitL} {zs : List Int} {xa : Option Addr} {xc : Nat} {x1 : Value} {s3 s4 Bx s5 s6 : Nat} (h : XS W x zs xa xc x1 s3 s4 Bx s5 s6) : W.cell? ⟨Bx, 0, none⟩ = some (.int .i64 x.vars) ∧ W.cell? ⟨Bx, 1, none⟩ = some (.int .i64 x.vol) ∧ W.cell? ⟨Bx, 2, none⟩ = some (.int .i64 x.locks) ∧ W.cell? ⟨Bx, 3, none⟩ = some (.slice xa x.thr.length xc) := ⟨h.XB 0 _ rfl, h.XB 1 _ rfl, h.XB 2 _ rfl, h.XB 3 _ rfl⟩
def LitQ (W : World) (x : LitL) (e : Ending) (w' : World) : Prop := ∃ xa xc, e = .returned (.agg #[.int .i64 x.vars, .int .i64 x.vol, .int .i64 x.locks, .slice xa x.thr.length xc]) ∧ ListAt ThrR 1 true W.heap.size w'.heap.size w' (.slice xa x.thr.length xc) x.thr ∧ Below W.heap.size W w'
theorem toLitQ {x : LitL} (hs : x.small) {w W : World} {ta : Option Addr} {tc : Nat} (hx : ListAt ThrR 1 false 0 w.heap.size w (.slice ta x.thr.length tc) x.thr) (hW : Below w.heap.size w W) : Calls Tryz.prog 6 #[.agg #[.int .i64 x.vars, .int .i64 x.vol, .int .i64 x.locks, .slice ta x.thr.length tc]] W fun e w' => LitQ W x e w' := by
 refine (toLit_calls x w.heap.size hs W [.int .i64 x.vars, .int .i64 x.vol, .int .i64 x.locks, .slice ta x.thr.length tc] hW.size ⟨_, rfl, hx.kept ThrR.stable (Nat.le_refl _) (Nat.le_refl _) (Same.below hW)⟩ rfl).mono ?_
 rintro e w' ⟨row, rfl, _, _, ⟨v, rfl, hv⟩, hb⟩
 obtain ⟨a, c, rfl⟩ := hv.form
 exact ⟨a, c, rfl, hv, hb⟩
end Go.Proofs.YtknbchheoloaoaaGreat
