/- spec.l11Act on states of serial runs. -/
import Derived.Test.YtknbchheoloaoaaGreatSoE
import Derived.StillTailTactics
import Derived.Deep.Cut
namespace Go.Proofs.YtknbchheoloaoaaGreat
set_option linter.unusedVariables false
open Go.ChangeShapes Go.WideShapes Go.ChangeAt Go.RowKit

structure ActW2 (W : World) (wb g b1 o1 t b2 o2 k : Nat) (vars vol locks : Int) (nt tc ln uc : Nat) (a : ActL) (b0 n0 c0 : Nat) : Prop where
 m0 : W.cell? ⟨wb, 0, none⟩ = some (.int .i64 vars)
 m1 : W.cell? ⟨wb, 1, none⟩ = some (.int .i64 vol)
 m2 : W.cell? ⟨wb, 2, none⟩ = some (.int .i64 locks)
 m3 : W.cell? ⟨wb, 3, none⟩ = some (.slice (some ⟨b1, o1, none⟩) nt tc)
 n0 : W.cell? ⟨g, 0, none⟩ = some (.slice (some ⟨b0, 0, none⟩) n0 c0)
 n1 : W.cell? ⟨b0, t, none⟩ = some (.int .i64 k)
 n2 : W.cell? ⟨b1, o1 + t, none⟩ = some (.slice (some ⟨b2, o2, none⟩) ln uc)
 a0 : W.cell? ⟨b2, o2 + k * 3, none⟩ = some (.int .i64 a.kind)
 a1 : W.cell? ⟨b2, o2 + k * 3 + 1, none⟩ = some (.int .i64 a.var)
 a2 : W.cell? ⟨b2, o2 + k * 3 + 2, none⟩ = some (.int .i64 a.n)
theorem wf_small {x : LitL} {s : S11} (ho : OkL x) (h : Wf x s) : s.pcs.length ≤ 3 ∧ s.memory.length ≤ 4 ∧ s.locks.length = 2 ∧ s.reads.length ≤ 3 ∧ (∀ r ∈ s.reads, r.length ≤ 4) ∧ s.buffers.length ≤ 3 ∧ (∀ r ∈ s.buffers, r = []) := by
 have h1 := ho.n1
 have h2 := ho.v1
 have h3 := h.lm
 refine ⟨by rw [h.lp]; exact h1, by omega, h.lk, by rw [h.lr]; exact h1, fun r hr => ?_, by rw [h.lb]; simpa using h1, fun r hr => ?_⟩
 ·obtain ⟨t, ht, rfl⟩ := List.mem_iff_getElem.1 hr
  have htp : t < s.pcs.length := by rw [h.lp, ← h.lr]; exact ht
  have htt : t < x.thr.length := by rw [← h.lr]; exact ht
  have h5 := h.rl t ht htp
  have h6 := (h.pn t htp htt).2
  have h7 := ho.len _ (List.getElem_mem htt)
  omega
 ·rw [h.lb] at hr
  exact List.eq_of_mem_replicate hr

def readR (C : World → Prop) (X : World → Prop) (UN : Value) (zs : List Int) (B : Nat) (z : Int) : Nat → (Nat → Value) → World → Prop
 | 0, _, W => C W ∧ X W
 | 1, vs, W => C W ∧ X W ∧ vs 16 = .int .i64 z
 | 2, vs, W => C W ∧ X W ∧ ∃ b, vs 17 = .slice (some ⟨b, 0, none⟩) 1 1 ∧ W.ownsRow 0 2 1 (vs 17) 1 [.int .i64 z]
 | _, vs, W => C W ∧ ∃ Wp, X Wp ∧ W.ownsRow B 2 1 (vs 18) (zs ++ [z]).length (intsV (zs ++ [z])) ∧ Wp.grownBy W UN.ownBlock ∧ ((vs 18).ownBlock = UN.ownBlock ∨ (vs 18).ownBlock = some Wp.heap.size)
theorem readR_cells {C X : World → Prop} {UN : Value} {zs : List Int} {B : Nat} {z : Int} {k : Nat} {vs : Nat → Value} {W : World} (h : readR C X UN zs B z k vs W) : C W := by
 match k, h with
 | 0, h => exact h.1
 | 1, h => exact h.1
 | 2, h => exact h.1
 | _ + 3, h => exact h.1
theorem readR_loc (C X : World → Prop) (UN : Value) (zs : List Int) (B : Nat) (z : Int) : ∀ k vs i v w, i ∉ [16, 17, 18] → readR C X UN zs B z k vs w → readR C X UN zs B z k (upd vs i v) w := by
 intro k vs i v w hi h
 simp only [List.mem_cons, List.not_mem_nil, or_false, not_or] at hi
 have e16 : upd vs i v 16 = vs 16 := upd_other _ _ (Ne.symm hi.1)
 have e17 : upd vs i v 17 = vs 17 := upd_other _ _ (Ne.symm hi.2.1)
 have e18 : upd vs i v 18 = vs 18 := upd_other _ _ (Ne.symm hi.2.2)
 match k, h with
 | 0, h => exact h
 | 1, h => exact ⟨h.1, h.2.1, by rw [e16]; exact h.2.2⟩
 | 2, h => exact ⟨h.1, h.2.1, by rw [e17]; exact h.2.2⟩
 | _ + 3, h => exact ⟨h.1, by rw [e18]; exact h.2⟩

set_option maxRecDepth 1000000 in
set_option maxHeartbeats 4000000 in
theorem act_calls (x : LitL) (s : S11) (t : Nat) (p : Value) (ta : Option Addr) (tc : Nat) (w : World) (lo hi : Nat) (hh : hi ≤ w.heap.size) (hx : ListAt ThrR 1 true lo hi w (.slice ta x.thr.length tc) x.thr) (hs : ReadSt w p s) (ho : OkL x) (hwf : Wf x s) (a : ActL) (ha : actAt x t (pcOf s t) = some a) :
  Calls Tryz.prog 20 #[.agg #[.int .i64 x.vars, .int .i64 x.vol, .int .i64 x.locks, .slice ta x.thr.length tc], p, .int .i64 t, .bool false] w fun e w' => (∃ p', e = .returned p' ∧ ReadSt w' p' (actS s t a)) ∧ Below w.heap.size w w' := by
 obtain ⟨i2, hi2, hz2, hs2, hb2⟩ := info_parts (show (Tryz.prog.info? 2).map (fun i => (i.zero, i.size, i.bytes)) = some (some (.int .i64 0), 1, 8) by kernel_rfl)
 obtain ⟨sm1, sm2, sm3, sm4, sm5, sm6, sm7⟩ := wf_small ho hwf
 obtain ⟨ht, hlt, rfl⟩ : ∃ (ht : t < x.thr.length) (hlt : pcOf s t < x.thr[t].length), a = x.thr[t][pcOf s t] := by
  unfold actAt at ha
  rcases Nat.lt_or_ge t x.thr.length with h1 | h1
  ·rw [List.getElem?_eq_getElem h1] at ha
   rcases Nat.lt_or_ge (pcOf s t) x.thr[t].length with h2 | h2
   ·exact ⟨h1, h2, by simpa [h2] using ha.symm⟩
   ·simp [List.getElem?_eq_none h2] at ha
  ·simp [List.getElem?_eq_none h1] at ha
 have htp : t < s.pcs.length := by rw [hwf.lp]; exact ht
 have htr : t < s.reads.length := by rw [hwf.lr]; exact ht
 have htb : t < s.buffers.length := by rw [hwf.lb]; simpa using ht
 obtain ⟨hp0, hp1⟩ := hwf.pn t htp ht
 obtain ⟨k, hk⟩ : ∃ k : Nat, s.pcs[t] = k := ⟨s.pcs[t].toNat, by omega⟩
 have hpc : pcOf s t = k := by simp [pcOf, htp, hk]
 have hkl : k < x.thr[t].length := by rw [← hpc]; exact hlt
 have hav := actC_var (ho.act _ (List.getElem_mem ht) _ (List.getElem_mem hlt))
 obtain ⟨a, hae⟩ : ∃ a, a = x.thr[t][pcOf s t] := ⟨_, rfl⟩
 rw [← hae] at hav ⊢
 have hae2 : a = x.thr[t][k] := by rw [hae]; congr 1
 obtain ⟨W0, hW0⟩ : ∃ W0 : World, W0 = w.alloc (.cells #[.int .i64 x.vars, .int .i64 x.vol, .int .i64 x.locks, .slice ta x.thr.length tc] 34) := ⟨_, rfl⟩
 have hbW : Below w.heap.size w W0 := by rw [hW0]; exact below_1 _ _
 have hLW : LitW w W0 x.vars x.vol x.locks (.slice ta x.thr.length tc) := by rw [hW0]; exact LitW.start _ _ _ _ _ _
 have hx0 : ListAt ThrR 1 true lo hi W0 (.slice ta x.thr.length tc) x.thr := hx.kept ThrR.stable (Nat.le_refl _) (Nat.le_refl _) ((Same.below hbW).mono (Nat.zero_le _) hh)
 have hcp : Hid (Calls Tryz.prog 42 #[p] W0 fun e w' => (∃ p', e = .returned p' ∧ FreshSt W0.heap.size w' p' s) ∧ Below W0.heap.size W0 w') := copy_calls p s W0 (hs.below hbW) (by omega) (by omega) (by omega) sm4 (fun r hr => by have := sm5 r hr; omega) sm6 (fun r hr => by rw [sm7 r hr]; simp)
 obtain ⟨b1, o1, ua, uc, ⟨rfl, hc1⟩, hacts, hb1⟩ := thrC hx0 ht
 obtain ⟨b2, o2, row, rfl, hbb2, hrl, hrr, hrx⟩ := hacts.at k hkl
 have hrx : row = [.int .i64 x.thr[t][k].kind, .int .i64 x.thr[t][k].var, .int .i64 x.thr[t][k].n] := hrx
 rw [← hae2] at hrx
 subst hrx
 have hbWH : Hid (Below w.heap.size w W0) := hbW
 go_enter Tryz.func20, Tryz.ntmps20
 go_wp2_with fail
 rw [← hW0]
 refine (show Calls _ _ _ _ _ from hcp.out).mono ?_
 rintro e w1 ⟨⟨p', rfl, hF⟩, hB1⟩
 obtain ⟨g, u0, u1, u2, u3, u4, us1, us4, rfl, hst, hap, hgg⟩ := hF
 have hFr : Fr W0.heap.size w1 g u0 u1 u2 u3 u4 us1 us4 s := ⟨hst, hap, hgg⟩
 obtain ⟨b0, c0, rfl, hcc0, hb0, hb0', q0, fz0⟩ := intCell hst.pcs htp
 rw [hk] at q0
 have hsz := hbW.size
 have hsz1 := hB1.size
 have hlw0 : w.heap.size < W0.heap.size := hLW.sz
 have hW1 : ActW2 w1 w.heap.size g b1 o1 t b2 o2 k x.vars x.vol x.locks x.thr.length tc x.thr[t].length uc a b0 s.pcs.length c0 := by
  refine ⟨?_, ?_, ?_, ?_, by simpa using hst.row 0 _ rfl, q0, ?_, ?_, ?_, ?_⟩
  ·rw [hB1.cell (p := ⟨w.heap.size, 0, none⟩) hlw0]; exact hLW.c0
  ·rw [hB1.cell (p := ⟨w.heap.size, 1, none⟩) hlw0]; exact hLW.c1
  ·rw [hB1.cell (p := ⟨w.heap.size, 2, none⟩) hlw0]; exact hLW.c2
  ·rw [hB1.cell (p := ⟨w.heap.size, 3, none⟩) hlw0]; exact hLW.c3
  ·rw [hB1.cell (p := ⟨b1, o1 + t, none⟩) (by show b1 < _; omega)]; exact hc1
  ·rw [hB1.cell (p := ⟨b2, o2 + k * 3, none⟩) (by show b2 < _; omega)]; exact hrr 0 _ rfl
  ·rw [hB1.cell (p := ⟨b2, o2 + k * 3 + 1, none⟩) (by show b2 < _; omega)]; exact hrr 1 _ rfl
  ·rw [hB1.cell (p := ⟨b2, o2 + k * 3 + 2, none⟩) (by show b2 < _; omega)]; exact hrr 2 _ rfl
 have hkeep : ∀ {W W' : World}, Below W.heap.size W W' → (w.heap.size < W.heap.size ∧ g < W.heap.size ∧ b0 < W.heap.size ∧ b1 < W.heap.size ∧ b2 < W.heap.size) → ActW2 W w.heap.size g b1 o1 t b2 o2 k x.vars x.vol x.locks x.thr.length tc x.thr[t].length uc a b0 s.pcs.length c0 → ActW2 W' w.heap.size g b1 o1 t b2 o2 k x.vars x.vol x.locks x.thr.length tc x.thr[t].length uc a b0 s.pcs.length c0 := by
  rintro W W' hb ⟨z1, z2, z3, z4, z5⟩ ⟨m0, m1, m2, m3, n0, n1, n2, e0, e1, e2⟩
  exact ⟨by rw [hb.cell (p := ⟨w.heap.size, 0, none⟩) z1]; exact m0, by rw [hb.cell (p := ⟨w.heap.size, 1, none⟩) z1]; exact m1, by rw [hb.cell (p := ⟨w.heap.size, 2, none⟩) z1]; exact m2, by rw [hb.cell (p := ⟨w.heap.size, 3, none⟩) z1]; exact m3, by rw [hb.cell (p := ⟨g, 0, none⟩) z2]; exact n0, by rw [hb.cell (p := ⟨b0, t, none⟩) z3]; exact n1, by rw [hb.cell (p := ⟨b1, o1 + t, none⟩) z4]; exact n2, by rw [hb.cell (p := ⟨b2, o2 + k * 3, none⟩) z5]; exact e0, by rw [hb.cell (p := ⟨b2, o2 + k * 3 + 1, none⟩) z5]; exact e1, by rw [hb.cell (p := ⟨b2, o2 + k * 3 + 2, none⟩) z5]; exact e2⟩
 have hzz : w.heap.size < w1.heap.size ∧ g < w1.heap.size ∧ b0 < w1.heap.size ∧ b1 < w1.heap.size ∧ b2 < w1.heap.size := ⟨by omega, hst.hi, hb0', by omega, by omega⟩
 have hmk : Hid (∀ W, Below w1.heap.size w1 W → (Hid (Below w1.heap.size w1 W) ∧ W.cell? ⟨w.heap.size, 3, none⟩ = some (.slice (some ⟨b1, o1, none⟩) x.thr.length tc) ∧ W.cell? ⟨g, 0, none⟩ = some (.slice (some ⟨b0, 0, none⟩) s.pcs.length c0) ∧ W.cell? ⟨b0, t, none⟩ = some (.int .i64 k) ∧ W.cell? ⟨b1, o1 + t, none⟩ = some (.slice (some ⟨b2, o2, none⟩) x.thr[t].length uc) ∧ W.cell? ⟨b2, o2 + k * 3, none⟩ = some (.int .i64 a.kind) ∧ W.cell? ⟨b2, o2 + k * 3 + 1, none⟩ = some (.int .i64 a.var) ∧ W.cell? ⟨b2, o2 + k * 3 + 2, none⟩ = some (.int .i64 a.n))) := fun W hW => by
  obtain ⟨m0, m1, m2, m3, n0, n1, n2, e0, e1, e2⟩ := hkeep hW hzz hW1
  exact ⟨hW, m3, n0, n1, n2, e0, e1, e2⟩
 have ht' : (t : Int) < x.thr.length := by omega
 have htp' : (t : Int) < s.pcs.length := by omega
 have hkl' : (k : Int) < x.thr[t].length := by omega
 have hFrH : Hid (Fr W0.heap.size w1 g (.slice (some ⟨b0, 0, none⟩) s.pcs.length c0) u1 u2 u3 u4 us1 us4 s) := hFr
 have hW1H : Hid (ActW2 w1 w.heap.size g b1 o1 t b2 o2 k x.vars x.vol x.locks x.thr.length tc x.thr[t].length uc a b0 s.pcs.length c0) := hW1
 have hB1H : Hid (Below W0.heap.size W0 w1) := hB1
 have hS0 := hmk.out w1 (Below.refl _ _)
 have hxk : Hid (∀ {W W' : World}, Below W.heap.size W W' → (w.heap.size < W.heap.size ∧ g < W.heap.size ∧ b0 < W.heap.size ∧ b1 < W.heap.size ∧ b2 < W.heap.size) → ActW2 W w.heap.size g b1 o1 t b2 o2 k x.vars x.vol x.locks x.thr.length tc x.thr[t].length uc a b0 s.pcs.length c0 → ActW2 W' w.heap.size g b1 o1 t b2 o2 k x.vars x.vol x.locks x.thr.length tc x.thr[t].length uc a b0 s.pcs.length c0) := fun h1 h2 h3 => hkeep h1 h2 h3
 clear hW0 hcp hFr hst hap hgg hW1 hkeep hB1 hbW hLW hx0 hx hs hacts hrr hrl hc1 hae2 hae q0 ha
 go_wp2_with fail
 go_region_held3 (fun W => Hid (Below w1.heap.size w1 W) ∧ W.cell? ⟨w.heap.size, 3, none⟩ = some (.slice (some ⟨b1, o1, none⟩) x.thr.length tc) ∧ W.cell? ⟨g, 0, none⟩ = some (.slice (some ⟨b0, 0, none⟩) s.pcs.length c0) ∧ W.cell? ⟨b0, t, none⟩ = some (.int .i64 k) ∧ W.cell? ⟨b1, o1 + t, none⟩ = some (.slice (some ⟨b2, o2, none⟩) x.thr[t].length uc) ∧ W.cell? ⟨b2, o2 + k * 3, none⟩ = some (.int .i64 a.kind) ∧ W.cell? ⟨b2, o2 + k * 3 + 1, none⟩ = some (.int .i64 a.var) ∧ W.cell? ⟨b2, o2 + k * 3 + 2, none⟩ = some (.int .i64 a.n))
  (first | assumption | exact hmk.out _ (by repeat (first | exact Hid.out (And.left (by assumption)) | apply Below.drew | apply below_al)))
  (first | fail)
 -- the act lies in a block of its own
 obtain ⟨W2, hW2⟩ : ∃ W2 : World, W2 = (w1.alloc (.cells #[.int .i64 a.kind, .int .i64 a.var, .int .i64 a.n] 60)).drew := ⟨_, rfl⟩
 have hb12 : Below w1.heap.size w1 W2 := by rw [hW2]; exact Below.drew (below_1 _ _)
 have hrg := rangeAt_heap (heap_alloc_new w1 (.cells #[.int .i64 a.kind, .int .i64 a.var, .int .i64 a.n] 60))
 have A0 : W2.cell? ⟨w1.heap.size, 0, none⟩ = some (.int .i64 a.kind) := by rw [hW2]; exact hrg 0 _ rfl
 have A1 : W2.cell? ⟨w1.heap.size, 1, none⟩ = some (.int .i64 a.var) := by rw [hW2]; exact hrg 1 _ rfl
 have A2 : W2.cell? ⟨w1.heap.size, 2, none⟩ = some (.int .i64 a.n) := by rw [hW2]; exact hrg 2 _ rfl
 have hA2 : Hid (w1.heap.size < W2.heap.size) := by show _ < _; rw [hW2]; show w1.heap.size < (w1.alloc _).heap.size; simp
 have G2 := hxk.out hb12 hzz hW1H.out
 obtain ⟨m0, m1, m2, m3, n0, n1, n2, -, -, -⟩ := G2
 have fz2 : W2.frozen? ⟨b0, t, none⟩ = false := by rw [hb12.frozen (p := ⟨b0, t, none⟩) hzz.2.2.1]; exact fz0
 have hFr2 : Hid (Fr W0.heap.size W2 g (.slice (some ⟨b0, 0, none⟩) s.pcs.length c0) u1 u2 u3 u4 us1 us4 s) := hFrH.out.below hb12
 rw [← hW2]
 have hlt1 : Hid (∀ r ∈ stRows (.slice (some ⟨b0, 0, none⟩) s.pcs.length c0) u1 u2 u3 u4 us1 us4 s, ∀ q, r.v.ownBlock = some q → q < w1.heap.size) := fun r hr q hq => (RowD.held.lt (hFrH.out.st.held r hr) hq).2
 clear hW2 hS0 hrg hmk hxk hFrH hW1H fz0
 have hb12H : Hid (Below w1.heap.size w1 W2) := hb12
 clear hb12 n2 m3
 go_wp2_with fail
 go_still_tail 14, (by kernel_rfl)
 go_upto_region 4 with fail
 obtain ⟨W3, hW3⟩ : ∃ W3 : World, W3 = (W2.setCell ⟨b0, t, none⟩ (.int .i64 (wrap64 ((k : Int) + 1)))).drew := ⟨_, rfl⟩
 have hk5 : k < 5 := by have := ho.len _ (List.getElem_mem ht); omega
 have hwr : wrap64 ((k : Int) + 1) = (k : Int) + 1 := by unfold wrap64; omega
 have hFr3 : Fr W0.heap.size W3 g (.slice (some ⟨b0, 0, none⟩) s.pcs.length c0) u1 u2 u3 u4 us1 us4 { s with pcs := s.pcs.set t ((k : Int) + 1) } := by
  rw [hW3, hwr]; exact (hFr2.out.pcs t _).below (Below.drew (Below.refl _ _))
 have hne : ∀ b o, b ≠ b0 → W3.cell? ⟨b, o, none⟩ = W2.cell? ⟨b, o, none⟩ := fun b o hb => by
  rw [hW3]; show (W2.setCell _ _).cell? _ = _
  exact World.cell?_setCell_other _ _ _ _ (fun e => hb (by injection e with e1; exact e1.symm))
 have hsz3 : W3.heap.size = W2.heap.size := by rw [hW3]; simp [World.setCell]
 have hb0A : w1.heap.size ≠ b0 := by omega
 have hb0w : w.heap.size ≠ b0 := by omega
 have B0 : W3.cell? ⟨w1.heap.size, 0, none⟩ = some (.int .i64 a.kind) := by rw [hne _ _ hb0A]; exact A0
 have B1 : W3.cell? ⟨w1.heap.size, 1, none⟩ = some (.int .i64 a.var) := by rw [hne _ _ hb0A]; exact A1
 have B2 : W3.cell? ⟨w1.heap.size, 2, none⟩ = some (.int .i64 a.n) := by rw [hne _ _ hb0A]; exact A2
 have M1 : W3.cell? ⟨w.heap.size, 1, none⟩ = some (.int .i64 x.vol) := by rw [hne _ _ hb0w]; exact m1
 have hBw : Hid (Below w.heap.size w W3) := by
  show Below _ _ _
  rw [hW3]
  exact Below.drew ((below_on hbWH.out (below_on hB1H.out hb12H.out)).setCell (p := ⟨b0, t, none⟩) (by show w.heap.size ≤ b0; omega) _)
 have hA3 : Hid (w1.heap.size < W3.heap.size) := by show _ < _; rw [hsz3]; exact hA2.out
 rw [← hW3]
 have hFr3H : Hid (Fr W0.heap.size W3 g (.slice (some ⟨b0, 0, none⟩) s.pcs.length c0) u1 u2 u3 u4 us1 us4 { s with pcs := s.pcs.set t ((k : Int) + 1) }) := hFr3
 have hacts : Hid (actS s t a = actS s t a) := rfl
 clear hW3 hFr2 A0 A1 A2 m0 m1 m2 n0 n1 fz2 hne hwr hb12H hFr3
 have hwi : IntKind.i64.wrap ((k : Int) + 1) = (k : Int) + 1 := by
  have h2 : (k : Int) + 1 < 9223372036854775808 := by omega
  simp only [IntKind.wrap, IntKind.bits, IntKind.signed]
  simp
  omega
 simp only [hwi]
 clear hwi hacts
 obtain ⟨ak, av, an⟩ := a
 dsimp only at B0 B1 B2 hav ⊢
 rcases hav.2.2 with h1 | h1 | h1 | h1 | h1
 ·subst h1
  obtain ⟨v, rfl⟩ : ∃ v : Nat, av = v := ⟨av.toNat, by have := (hav.1 (.inl rfl)).1; omega⟩
  have hvm : v < s.memory.length := by
   have := (hav.1 (.inl rfl)).2
   have := hwf.lm
   omega
  go_wp2_with fail
  have hus := hFr3H.out.st.read htr
  obtain ⟨un, hun, huo⟩ := hus
  have htu : t < us1.length := by rw [hFr3H.out.st.l1]; exact htr
  have hunt : us1[t] = un := by simpa [htu] using hun
  have hin : (⟨2, un, intsV s.reads[t]⟩ : RowD) ∈ rowsD us1 s.reads := by
   have hl : t < (rowsD us1 s.reads).length := by rw [rowsD_length hFr3H.out.st.l1]; exact htr
   have := List.getElem_mem hl
   rw [rowsD_get htu htr, hunt] at this
   exact this
  obtain ⟨na, nc, hune⟩ := own_form huo
  have hune : un = .slice na s.reads[t].length nc := hune
  obtain ⟨br, cr, hue, hcr, _, hbrB, hbrW, hcell, hfz⟩ := rowCell hFr3H.out.st.reads hun
  have hue : u1 = .slice (some ⟨br, 0, none⟩) s.reads.length cr := hue
  subst hue
  have hmem : (⟨2, un, intsV s.reads[t]⟩ : RowD) ∈ stRows (.slice (some ⟨b0, 0, none⟩) s.pcs.length c0) (.slice (some ⟨br, 0, none⟩) s.reads.length cr) u2 u3 u4 us1 us4 { s with pcs := s.pcs.set t ((k : Int) + 1) } := by
   simp only [stRows, List.mem_append]; exact .inr (.inl hin)
  have hmem0 : (⟨2, un, intsV s.reads[t]⟩ : RowD) ∈ stRows (.slice (some ⟨b0, 0, none⟩) s.pcs.length c0) (.slice (some ⟨br, 0, none⟩) s.reads.length cr) u2 u3 u4 us1 us4 s := by
   simp only [stRows, List.mem_append]; exact .inr (.inl hin)
  have hapt : (Value.slice na s.reads[t].length nc).ownBlock ≠ some br := by
   have h1 := (List.pairwise_append.1 hFr3H.out.ap).2.2 ⟨25, .slice (some ⟨br, 0, none⟩) s.reads.length cr, us1⟩ (by simp) ⟨2, un, intsV s.reads[t]⟩ (List.mem_append.2 (.inl hin)) br rfl
   rw [← hune]; exact h1
  have hbrA : br < w1.heap.size := hlt1.out ⟨25, .slice (some ⟨br, 0, none⟩) s.reads.length cr, us1⟩ (by simp [stRows]) br rfl
  have hrg0 := hFr3H.out.st.row
  have hgr : Hid (W3.cell? ⟨g, 1, none⟩ = some (.slice (some ⟨br, 0, none⟩) s.reads.length cr)) := by show _ = _; simpa using hrg0 1 _ rfl
  have hblk : Hid ((Value.slice na s.reads[t].length nc).ownBlock ≠ some g ∧ (Value.slice na s.reads[t].length nc).ownBlock ≠ some br ∧ (Value.slice na s.reads[t].length nc).ownBlock ≠ some w1.heap.size) := by
   refine ⟨?_, ?_, ?_⟩
   ·exact fun q => hFr3H.out.gg ⟨2, un, intsV s.reads[t]⟩ hmem (by rw [hune]; exact q)
   ·intro q
    exact hapt q
   ·intro q
    have := hlt1.out ⟨2, un, intsV s.reads[t]⟩ hmem0 _ (by rw [hune]; exact q)
    omega
  refine wp_region_chain (by kernel_rfl) (fun vs => { tmps := #[Value.agg #[Value.int IntKind.i64 x.vars, Value.int IntKind.i64 x.vol, Value.int IntKind.i64 x.locks, Value.slice (some { block := b1, off := o1 }) x.thr.length tc], p, Value.int IntKind.i64 ↑t, Value.bool false, Value.pointer (some { block := w.heap.size, off := 0 }), undef, undef, undef, Value.pointer none, Value.pointer (some { block := g, off := 0 }), Value.pointer (some { block := w1.heap.size, off := 0 }), undef, p, Value.pointer (some { block := g, off := 0 }), Value.pointer (some { block := w.heap.size, off := 3 }), Value.slice (some { block := b1, off := o1 }) x.thr.length tc, Value.int IntKind.i64 ↑t, Value.pointer (some { block := b1, off := o1 + t }), Value.slice (some { block := b2, off := o2 }) x.thr[t].length uc, Value.pointer (some { block := g, off := 0 }), Value.pointer (some { block := g, off := 0 }), Value.pointer (some { block := g, off := 0 }), Value.slice (some { block := b0, off := 0 }) s.pcs.length c0, Value.int IntKind.i64 ↑t, Value.pointer (some { block := b0, off := t }), Value.int IntKind.i64 ↑k, Value.pointer (some { block := b2, off := o2 + k * 3 }), Value.agg #[Value.int IntKind.i64 1, Value.int IntKind.i64 ↑v, Value.int IntKind.i64 an], Value.pointer (some { block := g, off := 0 }), Value.pointer (some { block := g, off := 0 }), Value.pointer (some { block := g, off := 0 }), Value.slice (some { block := b0, off := 0 }) s.pcs.length c0, Value.int IntKind.i64 ↑t, Value.pointer (some { block := g, off := 0 }), Value.pointer (some { block := g, off := 0 }), Value.pointer (some { block := g, off := 0 }), Value.slice (some { block := b0, off := 0 }) s.pcs.length c0, Value.int IntKind.i64 ↑t, Value.pointer (some { block := b0, off := t }), Value.int IntKind.i64 ↑k, Value.int IntKind.i64 (↑k + 1), Value.pointer (some { block := b0, off := t }), Value.pointer (some { block := w1.heap.size, off := 0 }), Value.int IntKind.i64 1, Value.bool true, Value.bool true, vs 0, vs 1, vs 2, vs 3, vs 4, vs 5, vs 6, vs 7, vs 8, vs 9, vs 10, vs 11, vs 12, vs 13, vs 14, vs 15, vs 16, vs 17, vs 18, vs 19, undef, undef, undef, undef, undef, undef, undef, undef, undef, undef, undef, undef, undef, undef, undef, undef, undef, undef, undef, undef, undef, undef, undef, undef, undef, undef, undef, undef, undef, undef, undef, undef, undef, undef, undef, undef, undef, undef, undef, undef, undef, undef, undef, undef, undef, undef, undef, undef, undef, undef, undef, undef, undef, undef, undef, undef, undef, undef, undef, undef, undef, undef, undef, undef, undef, undef, undef, undef, undef, undef, undef, undef, undef, undef, undef, undef, undef, undef, undef, undef, undef, undef, undef, undef, undef, undef, undef, undef, undef, undef, undef, undef, undef, undef], defers := [] }) [16, 17, 18] (fun i q => q = ([.pointer (some ⟨g, 0, none⟩), .pointer (some ⟨g, 0, none⟩), .pointer (some ⟨g, 1, none⟩), .slice (some ⟨br, 0, none⟩) s.reads.length cr, .int .i64 t, .pointer (some ⟨g, 0, none⟩), .pointer (some ⟨g, 0, none⟩), .pointer (some ⟨g, 1, none⟩), .slice (some ⟨br, 0, none⟩) s.reads.length cr, .int .i64 t, .pointer (some ⟨br, t, none⟩), .slice na s.reads[t].length nc, .pointer (some ⟨g, 0, none⟩), .int .i64 t, .pointer (some ⟨w1.heap.size, 1, none⟩), .int .i64 v, undef, undef, undef, .pointer (some ⟨br, t, none⟩)] : List Value).getD i undef) (readR (fun W => W.cell? ⟨g, 1, none⟩ = some (.slice (some ⟨br, 0, none⟩) s.reads.length cr) ∧ W.cell? ⟨br, t, none⟩ = some (.slice na s.reads[t].length nc) ∧ W.frozen? ⟨br, t, none⟩ = false ∧ W.cell? ⟨w1.heap.size, 1, none⟩ = some (.int .i64 v)) (fun W => Below w.heap.size w W ∧ Fr W0.heap.size W g (.slice (some ⟨b0, 0, none⟩) s.pcs.length c0) (.slice (some ⟨br, 0, none⟩) s.reads.length cr) u2 u3 u4 us1 us4 { s with pcs := s.pcs.set t ((k : Int) + 1) }) (.slice na s.reads[t].length nc) s.reads[t] W0.heap.size s.memory[v]) (fun i => undef) rfl (by kernel_rfl) ?_ (readR_loc _ _ _ _ _ _) (allAt_all ⟨?_, ?_, ?_, ?_, ?_, ?_, ?_, ?_, ?_, ?_, ?_, ?_, ?_, ?_, ?_, ?_, ?_, ?_, ?_, ?_, ?_, trivial⟩) ?_ ?_
  case refine_1 =>
   refine ⟨⟨hgr.out, ?_, hfz, B1⟩, ?_⟩
   ·rw [← hune]; exact hcell
   ·exact ⟨Below.drew hBw.out, hFr3H.out.below (Below.drew (Below.refl _ _))⟩
  case refine_2 =>
   intro _ _ k vs W hR hv
   go_wp2
   exact PurePost.mk' (.pointer (some ⟨g, 0, none⟩)) (by rfl) rfl
  case refine_3 =>
   intro _ _ k vs W hR hv
   have e0 : vs 0 = .pointer (some ⟨g, 0, none⟩) := hv ⟨0, .data⟩ (by simp) rfl (by decide)
   simp only [e0]
   go_wp2
   exact PurePost.mk' (.pointer (some ⟨g, 0, none⟩)) (by rw [← e0]; rfl) rfl
  case refine_4 =>
   intro _ _ k vs W hR hv
   have e1 : vs 1 = .pointer (some ⟨g, 0, none⟩) := hv ⟨1, .data⟩ (by simp) rfl (by decide)
   simp only [e1]
   go_wp2
   exact PurePost.mk' (.pointer (some ⟨g, 1, none⟩)) (by rw [← e1]; rfl) rfl
  case refine_5 =>
   intro _ _ k vs W hR hv
   have e2 : vs 2 = .pointer (some ⟨g, 1, none⟩) := hv ⟨2, .data⟩ (by simp) rfl (by decide)
   obtain ⟨g1, gt, gf, ga⟩ := readR_cells hR
   simp only [e2]
   go_wp2
   exact PurePost.mk' (.slice (some ⟨br, 0, none⟩) s.reads.length cr) (by rw [← e2]; rfl) rfl
  case refine_6 =>
   intro _ _ k vs W hR hv
   go_wp2
   exact PurePost.mk' (.int .i64 t) (by rfl) rfl
  case refine_7 =>
   intro _ _ k vs W hR hv
   go_wp2
   exact PurePost.mk' (.pointer (some ⟨g, 0, none⟩)) (by rfl) rfl
  case refine_8 =>
   intro _ _ k vs W hR hv
   have e5 : vs 5 = .pointer (some ⟨g, 0, none⟩) := hv ⟨5, .data⟩ (by simp) rfl (by decide)
   simp only [e5]
   go_wp2
   exact PurePost.mk' (.pointer (some ⟨g, 0, none⟩)) (by rw [← e5]; rfl) rfl
  case refine_9 =>
   intro _ _ k vs W hR hv
   have e6 : vs 6 = .pointer (some ⟨g, 0, none⟩) := hv ⟨6, .data⟩ (by simp) rfl (by decide)
   simp only [e6]
   go_wp2
   exact PurePost.mk' (.pointer (some ⟨g, 1, none⟩)) (by rw [← e6]; rfl) rfl
  case refine_10 =>
   intro _ _ k vs W hR hv
   have e7 : vs 7 = .pointer (some ⟨g, 1, none⟩) := hv ⟨7, .data⟩ (by simp) rfl (by decide)
   obtain ⟨g1, gt, gf, ga⟩ := readR_cells hR
   simp only [e7]
   go_wp2
   exact PurePost.mk' (.slice (some ⟨br, 0, none⟩) s.reads.length cr) (by rw [← e7]; rfl) rfl
  case refine_11 =>
   intro _ _ k vs W hR hv
   go_wp2
   exact PurePost.mk' (.int .i64 t) (by rfl) rfl
  case refine_12 =>
   intro _ _ k vs W hR hv
   have e8 : vs 8 = .slice (some ⟨br, 0, none⟩) s.reads.length cr := hv ⟨8, .data⟩ (by simp) rfl (by decide)
   have e9 : vs 9 = .int .i64 t := hv ⟨9, .data⟩ (by simp) rfl (by decide)
   simp only [e8, e9]
   go_wp2
   exact PurePost.mk' (.pointer (some ⟨br, t, none⟩)) (by rw [← e8, ← e9]; rfl) rfl
  case refine_13 =>
   intro _ _ k vs W hR hv
   have e10 : vs 10 = .pointer (some ⟨br, t, none⟩) := hv ⟨10, .data⟩ (by simp) rfl (by decide)
   obtain ⟨g1, gt, gf, ga⟩ := readR_cells hR
   simp only [e10]
   go_wp2
   exact PurePost.mk' (.slice na s.reads[t].length nc) (by rw [← e10]; rfl) rfl
  case refine_14 =>
   intro _ _ k vs W hR hv
   go_wp2
   exact PurePost.mk' (.pointer (some ⟨g, 0, none⟩)) (by rfl) rfl
  case refine_15 =>
   intro _ _ k vs W hR hv
   go_wp2
   exact PurePost.mk' (.int .i64 t) (by rfl) rfl
  case refine_16 =>
   intro _ _ k vs W hR hv
   go_wp2
   exact PurePost.mk' (.pointer (some ⟨w1.heap.size, 1, none⟩)) (by rfl) rfl
  case refine_17 =>
   intro _ _ k vs W hR hv
   have e14 : vs 14 = .pointer (some ⟨w1.heap.size, 1, none⟩) := hv ⟨14, .data⟩ (by simp) rfl (by decide)
   obtain ⟨g1, gt, gf, ga⟩ := readR_cells hR
   simp only [e14]
   go_wp2
   exact PurePost.mk' (.int .i64 v) (by rw [← e14]; rfl) rfl
  case refine_18 => exact fun h => absurd (by decide) h
  case refine_19 => exact fun h => absurd (by decide) h
  case refine_20 => exact fun h => absurd (by decide) h
  case refine_21 =>
   intro _ _ k vs W hR hv
   have e3 : vs 3 = .slice (some ⟨br, 0, none⟩) s.reads.length cr := hv ⟨3, .data⟩ (by simp) rfl (by decide)
   have e4 : vs 4 = .int .i64 t := hv ⟨4, .data⟩ (by simp) rfl (by decide)
   simp only [e3, e4]
   go_wp2
   exact PurePost.mk' (.pointer (some ⟨br, t, none⟩)) (by rw [← e3, ← e4]; rfl) rfl
  case refine_22 => exact fun _ h => absurd h (by simp)
  case refine_23 =>
   intro q c o hq ho vs W hR hv
   match q, hq with
   | 0, hq =>
    obtain rfl : c = 16 := by simpa using hq.symm
    obtain rfl := Option.some.inj ho
    have e12 : vs 12 = .pointer (some ⟨g, 0, none⟩) := hv ⟨12, .data⟩ (by simp) rfl (by decide)
    have e13 : vs 13 = .int .i64 t := hv ⟨13, .data⟩ (by simp) rfl (by decide)
    have e15 : vs 15 = .int .i64 v := hv ⟨15, .data⟩ (by simp) rfl (by decide)
    obtain ⟨hC, hX⟩ := hR
    have hbt : s.buffers[t] = [] := sm7 _ (List.getElem_mem htb)
    have hcs : Hid (Calls Tryz.prog 43 #[.pointer (some ⟨g, 0, none⟩), .int .i64 t, .int .i64 v] W fun e w' => e = .returned (.int .i64 s.memory[v]) ∧ w' = W) := see_calls g _ _ _ _ _ us1 us4 { s with pcs := s.pcs.set t ((k : Int) + 1) } t v W ⟨Nat.zero_le _, hX.2.st.hi, hX.2.st.row, hX.2.st.l1, hX.2.st.l4, hX.2.st.held.mono (Nat.zero_le _)⟩ htb hbt hvm sm6 sm2
    simp only [e12, e13, e15]
    go_wp2_with (go_at_call 43; refine (show Calls _ _ _ _ _ from hcs.out).mono ?_; rintro e w' ⟨rfl, rfl⟩)
    exact ChainPost.mk' (.int .i64 s.memory[v]) (by rw [← e12, ← e13, ← e15]; rfl) ⟨hC, hX, rfl⟩
   | 1, hq =>
    obtain rfl : c = 17 := by simpa using hq.symm
    obtain rfl := Option.some.inj ho
    obtain ⟨hC, hX, e16⟩ := hR
    simp only [e16]
    go_wp2
    have hbl : Below W.heap.size W (W.alloc (.cells #[.int .i64 s.memory[v]] 2)) := below_1 _ _
    have hWs : w1.heap.size < W.heap.size := block_lt_of_cell hC.2.2.2
    have hWb : br < W.heap.size := block_lt_of_cell hC.2.1
    refine ChainPost.mk' (.slice (some ⟨W.heap.size, 0, none⟩) 1 1) (by rw [← e16]; rfl) ⟨⟨?_, ?_, ?_, ?_⟩, ⟨below_on hX.1 hbl, hX.2.below hbl⟩, W.heap.size, rfl, World.ownsRow_lit W #[.int .i64 s.memory[v]] 1 (Nat.zero_le _) (by unfold maxLen; omega) rfl⟩
    ·rw [hbl.cell (p := ⟨g, 1, none⟩) (block_lt_of_cell hC.1)]; exact hC.1
    ·rw [hbl.cell (p := ⟨br, t, none⟩) hWb]; exact hC.2.1
    ·rw [hbl.frozen (p := ⟨br, t, none⟩) hWb]; exact hC.2.2.1
    ·rw [hbl.cell (p := ⟨w1.heap.size, 1, none⟩) hWs]; exact hC.2.2.2
   | 2, hq =>
    obtain rfl : c = 18 := by simpa using hq.symm
    obtain rfl := Option.some.inj ho
    have e11 : vs 11 = .slice na s.reads[t].length nc := hv ⟨11, .data⟩ (by simp) rfl (by decide)
    obtain ⟨hC, hX, b, e17, ho17⟩ := hR
    obtain ⟨un', hun', huo'⟩ := hX.2.st.read htr
    have hune' : un' = .slice na s.reads[t].length nc := by rw [← hune]; rw [hun] at hun'; exact (Option.some.inj hun').symm
    rw [hune'] at huo'
    have hrl4 := sm5 _ (List.getElem_mem htr)
    refine wpList_append_row rfl (.tmp 57) (.tmp 63) 25 rfl W0.heap.size 2 i2 (.int .i64 0) 8 Tryz.underlying25 hi2 hz2 hs2 hb2 rfl (vs 11) s.reads[t].length (intsV s.reads[t]) rfl (by rw [e11]; exact huo') (vs 17) 0 1 [.int .i64 s.memory[v]] rfl ho17 (by simp [Value.oneCell']) (by unfold maxLen; omega) (by omega) (by have := hX.2.st.hi; have := hX.2.st.lo; omega) ?_
    intro v' w' hown hgrow hat
    refine wpList_nil ?_
    rw [e11] at hgrow hat
    have hWs : w1.heap.size < W.heap.size := block_lt_of_cell hC.2.2.2
    have hWb : br < W.heap.size := block_lt_of_cell hC.2.1
    have hWg : g < W.heap.size := block_lt_of_cell hC.1
    refine ChainPost.mk' v' rfl ⟨⟨?_, ?_, ?_, ?_⟩, W, hX, ?_, hgrow, hat⟩
    ·rw [World.cell?_of_block (a := ⟨g, 1, none⟩) (hgrow.block g hWg (fun q => hblk.out.1 q.symm))]; exact hC.1
    ·rw [World.cell?_of_block (a := ⟨br, t, none⟩) (hgrow.block br hWb (fun q => hblk.out.2.1 q.symm))]; exact hC.2.1
    ·rw [World.frozen?_of_block (a := ⟨br, t, none⟩) (hgrow.block br hWb (fun q => hblk.out.2.1 q.symm))]; exact hC.2.2.1
    ·rw [World.cell?_of_block (a := ⟨w1.heap.size, 1, none⟩) (hgrow.block _ hWs (fun q => hblk.out.2.2 q.symm))]; exact hC.2.2.2
    ·show w'.ownsRow _ 2 1 v' _ _
     rw [show (s.reads[t] ++ [s.memory[v]]).length = s.reads[t].length + 1 by simp, show intsV (s.reads[t] ++ [s.memory[v]]) = intsV s.reads[t] ++ [.int .i64 s.memory[v]] by simp [intsV]]
     exact hown
   | q + 3, hq => simp at hq
  case refine_24 =>
   intro o ho vs W hR hv
   obtain rfl := Option.some.inj ho
   have e19 : vs 19 = .pointer (some ⟨br, t, none⟩) := hv 19 (by simp) (by decide)
   obtain ⟨⟨g1, gt, gf, ga⟩, Wp, hX, hown, hgrow, hat⟩ := hR
   obtain ⟨va, vc, hve⟩ := own_form hown
   have hve : vs 18 = .slice va (s.reads[t] ++ [s.memory[v]]).length vc := hve
   have hfin : Hid (ReadSt (W.setCell ⟨br, t, none⟩ (vs 18)) (.pointer (some ⟨g, 0, none⟩)) { s with pcs := s.pcs.set t ((k : Int) + 1), reads := s.reads.set t (s.reads[t] ++ [s.memory[v]]) }) := (Fr.read hX.2 htr (by rw [← hune]; exact hun) hown hgrow hat).readSt
   have hfb : Hid (Below w.heap.size w (W.setCell ⟨br, t, none⟩ (vs 18))) := by
    refine Below.setCell ((hX.1).grown hgrow hX.1.size (fun j hj => ?_)) (p := ⟨br, t, none⟩) (by show w.heap.size ≤ br; omega) _
    obtain ⟨un', hun', huo'⟩ := hX.2.st.read htr
    have hune' : un' = .slice na s.reads[t].length nc := by rw [← hune]; rw [hun] at hun'; exact (Option.some.inj hun').symm
    have := (World.ownsRow.lt huo' j (by rw [hune']; exact hj)).1
    omega
   have hac : Hid (actS s t ⟨1, (v : Int), an⟩ = { s with pcs := s.pcs.set t ((k : Int) + 1), reads := s.reads.set t (s.reads[t] ++ [s.memory[v]]) }) := by
    show _ = _
    simp [actS, htp, hk, htr, hvm]
   rw [hve] at hfin hfb
   clear hX hown hgrow hat
   simp only [e19, hve]
   generalize (s.reads[t] ++ [s.memory[v]]).length = ll at *
   go_wp2
   go_ret
   refine ⟨⟨_, rfl, ?_⟩, ?_⟩
   ·rw [hac.out]; exact hfin.out.below (Below.refl _ _)
   ·exact hfb.out
 ·subst h1
  obtain ⟨v, rfl⟩ : ∃ v : Nat, av = v := ⟨av.toNat, by have := (hav.1 (by simp)).1; omega⟩
  have hvm : v < s.memory.length := by
   have := (hav.1 (by simp)).2
   have := hwf.lm
   omega
  obtain ⟨bm, cm, hue, hcm, hbmB, hbmW, hcell, hfz⟩ := intCell hFr3H.out.st.memory (show v < s.memory.length from hvm)
  have hue : u2 = .slice (some ⟨bm, 0, none⟩) s.memory.length cm := hue
  subst hue
  have hgm : W3.cell? ⟨g, 2, none⟩ = some (.slice (some ⟨bm, 0, none⟩) s.memory.length cm) := by simpa using hFr3H.out.st.row 2 _ rfl
  have hvm' : (v : Int) < s.memory.length := by omega
  have hfin : Hid (ReadSt (W3.setCell ⟨bm, v, none⟩ (.int .i64 an)) (.pointer (some ⟨g, 0, none⟩)) { s with pcs := s.pcs.set t ((k : Int) + 1), memory := s.memory.set v an }) := (hFr3H.out.memory v an).readSt
  have hfb : Hid (Below w.heap.size w (W3.setCell ⟨bm, v, none⟩ (.int .i64 an))) := hBw.out.setCell (p := ⟨bm, v, none⟩) (by show w.heap.size ≤ bm; omega) _
  have hac : Hid (actS s t ⟨2, (v : Int), an⟩ = { s with pcs := s.pcs.set t ((k : Int) + 1), memory := s.memory.set v an }) := by
   show _ = _
   simp [actS, htp, hk]
  go_wp2_with fail
  go_still_tail 8, (by kernel_rfl)
  go_wp2
  go_ret
  exact ⟨⟨_, rfl, by rw [hac.out]; exact hfin.out.below (Below.drew (Below.refl _ _))⟩, Below.drew hfb.out⟩
 ·subst h1
  obtain ⟨v, rfl⟩ : ∃ v : Nat, av = v := ⟨av.toNat, by have := (hav.1 (by simp)).1; omega⟩
  have hvm : v < s.memory.length := by
   have := (hav.1 (by simp)).2
   have := hwf.lm
   omega
  obtain ⟨bm, cm, hue, hcm, hbmB, hbmW, hcell, hfz⟩ := intCell hFr3H.out.st.memory (show v < s.memory.length from hvm)
  have hue : u2 = .slice (some ⟨bm, 0, none⟩) s.memory.length cm := hue
  subst hue
  have hgm : W3.cell? ⟨g, 2, none⟩ = some (.slice (some ⟨bm, 0, none⟩) s.memory.length cm) := by simpa using hFr3H.out.st.row 2 _ rfl
  have hvm' : (v : Int) < s.memory.length := by omega
  have hus := hFr3H.out.st.read htr
  obtain ⟨un, hun, huo⟩ := hus
  obtain ⟨na, nc, hune⟩ := own_form huo
  have hune : un = .slice na s.reads[t].length nc := hune
  subst hune
  obtain ⟨br, cr, hue, hcr, _, hbrB, hbrW, hcellr, hfzr⟩ := rowCell hFr3H.out.st.reads hun
  have hue : u1 = .slice (some ⟨br, 0, none⟩) s.reads.length cr := hue
  subst hue
  have hgr : W3.cell? ⟨g, 1, none⟩ = some (.slice (some ⟨br, 0, none⟩) s.reads.length cr) := by simpa using hFr3H.out.st.row 1 _ rfl
  have htr' : (t : Int) < s.reads.length := by omega
  have hrl4 := sm5 _ (List.getElem_mem htr)
  by_cases hr0 : s.reads[t].length = 0
  ·have hr0' : ¬ ((0 : Int) < s.reads[t].length) := by omega
   have hfin : Hid (ReadSt (W3.setCell ⟨bm, v, none⟩ (.int .i64 an)) (.pointer (some ⟨g, 0, none⟩)) { s with pcs := s.pcs.set t ((k : Int) + 1), memory := s.memory.set v an }) := (hFr3H.out.memory v an).readSt
   have hfb : Hid (Below w.heap.size w (W3.setCell ⟨bm, v, none⟩ (.int .i64 an))) := hBw.out.setCell (p := ⟨bm, v, none⟩) (by show w.heap.size ≤ bm; omega) _
   have hac : Hid (actS s t ⟨3, (v : Int), an⟩ = { s with pcs := s.pcs.set t ((k : Int) + 1), memory := s.memory.set v an }) := by
    show _ = _
    have : s.reads[t] = [] := List.eq_nil_of_length_eq_zero hr0
    simp [actS, htp, hk, htr, this, passN]
   clear hun huo hr0
   go_wp2_with fail
   go_still_tail 8, (by kernel_rfl)
   go_wp2
   go_ret
   exact ⟨⟨_, rfl, by rw [hac.out]; exact hfin.out.below (Below.drew (Below.refl _ _))⟩, Below.drew hfb.out⟩
  ·have hr0' : (0 : Int) < s.reads[t].length := by omega
   obtain ⟨m, hm⟩ : ∃ m, s.reads[t].length = m + 1 := ⟨s.reads[t].length - 1, by omega⟩
   obtain ⟨bn, cn, hne', hcn, _, _, hq0, _⟩ := intCell huo (show m < s.reads[t].length by omega)
   have hne1 : na = some ⟨bn, 0, none⟩ ∧ nc = cn := by injection hne' with q1 q2 q3; exact ⟨q1, q3⟩
   obtain ⟨rfl, rfl⟩ := hne1
   have hlst : passN an s.reads[t] = wrap64 (an + s.reads[t][m]'(by omega)) := by
    unfold passN
    rw [List.getLast?_eq_getElem?]
    simp [hm]
   obtain ⟨z, hzv⟩ : ∃ z, z = s.reads[t][m]'(by omega) := ⟨_, rfl⟩
   rw [← hzv] at hlst
   have hcn0 : W3.cell? ⟨bn, m, none⟩ = some (.int .i64 z) := by rw [hzv]; exact hq0
   have hac : Hid (actS s t ⟨3, (v : Int), an⟩ = { s with pcs := s.pcs.set t ((k : Int) + 1), memory := s.memory.set v (wrap64 (an + z)) }) := by
    show _ = _
    simp [actS, htp, hk, htr, hlst]
   clear hlst hzv hun huo hr0 hne' hq0
   generalize s.reads[t].length = rl at *
   subst hm
   go_wp2_with fail
   go_quiet (fail)
   go_wp2_with fail
   have hFr4 : Hid (Fr W0.heap.size (W3.drewN nq) g (.slice (some ⟨b0, 0, none⟩) s.pcs.length c0) (.slice (some ⟨br, 0, none⟩) s.reads.length cr) (.slice (some ⟨bm, 0, none⟩) s.memory.length cm) u3 u4 us1 us4 { s with pcs := s.pcs.set t ((k : Int) + 1) }) := hFr3H.out.below (below_drewN (Below.refl _ _) _)
   have hBw4 : Hid (Below w.heap.size w (W3.drewN nq)) := below_drewN hBw.out _
   have hgm4 : (W3.drewN nq).cell? ⟨g, 2, none⟩ = some (.slice (some ⟨bm, 0, none⟩) s.memory.length cm) := hgm
   have hB14 : (W3.drewN nq).cell? ⟨w1.heap.size, 1, none⟩ = some (.int .i64 v) := B1
   have hcl4 : ∃ q, (W3.drewN nq).cell? ⟨bm, v, none⟩ = some q := ⟨_, hcell⟩
   have hfz4 : (W3.drewN nq).frozen? ⟨bm, v, none⟩ = false := hfz
   obtain ⟨q, hcl4⟩ := hcl4
   generalize W3.drewN nq = W4 at *
   have hfin : Hid (ReadSt (W4.setCell ⟨bm, v, none⟩ (.int .i64 (wrap64 (an + z)))) (.pointer (some ⟨g, 0, none⟩)) { s with pcs := s.pcs.set t ((k : Int) + 1), memory := s.memory.set v (wrap64 (an + z)) }) := (hFr4.out.memory v _).readSt
   have hfb : Hid (Below w.heap.size w (W4.setCell ⟨bm, v, none⟩ (.int .i64 (wrap64 (an + z))))) := hBw4.out.setCell (p := ⟨bm, v, none⟩) (by show w.heap.size ≤ bm; omega) _
   go_still_tail 8, (by kernel_rfl)
   go_wp2
   go_ret
   exact ⟨⟨_, rfl, by rw [hac.out]; exact hfin.out.below (Below.drew (Below.refl _ _))⟩, Below.drew hfb.out⟩
 ·subst h1
  obtain ⟨v, rfl⟩ : ∃ v : Nat, av = v := ⟨av.toNat, by have := (hav.2.1 (by simp)).1; omega⟩
  have hvm : v < s.locks.length := by
   have := (hav.2.1 (by simp)).2
   have := ho.k1
   omega
  obtain ⟨bm, cm, hue, hcm, hbmB, hbmW, hcell, hfz⟩ := intCell hFr3H.out.st.locks (show v < s.locks.length from hvm)
  have hue : u3 = .slice (some ⟨bm, 0, none⟩) s.locks.length cm := hue
  subst hue
  have hgm : W3.cell? ⟨g, 3, none⟩ = some (.slice (some ⟨bm, 0, none⟩) s.locks.length cm) := by simpa using hFr3H.out.st.row 3 _ rfl
  have hvm' : (v : Int) < s.locks.length := by omega
  have ht3 : t < 3 := by have := ho.n1; omega
  clear sm3
  have hfin : Hid (ReadSt (W3.setCell ⟨bm, v, none⟩ (.int .i64 ((t : Int) + 1))) (.pointer (some ⟨g, 0, none⟩)) { s with pcs := s.pcs.set t ((k : Int) + 1), locks := s.locks.set v ((t : Int) + 1) }) := (hFr3H.out.locks v ((t : Int) + 1)).readSt
  have hfb : Hid (Below w.heap.size w (W3.setCell ⟨bm, v, none⟩ (.int .i64 ((t : Int) + 1)))) := hBw.out.setCell (p := ⟨bm, v, none⟩) (by show w.heap.size ≤ bm; omega) _
  have hac : Hid (actS s t ⟨4, (v : Int), an⟩ = { s with pcs := s.pcs.set t ((k : Int) + 1), locks := s.locks.set v ((t : Int) + 1) }) := by
   show _ = _
   simp [actS, htp, hk]
  go_wp2_with fail
  go_still_tail 9, (by kernel_rfl)
  go_wp2
  go_ret
  exact ⟨⟨_, rfl, by rw [hac.out]; exact hfin.out.below (Below.drew (Below.refl _ _))⟩, Below.drew hfb.out⟩
 ·subst h1
  obtain ⟨v, rfl⟩ : ∃ v : Nat, av = v := ⟨av.toNat, by have := (hav.2.1 (by simp)).1; omega⟩
  have hvm : v < s.locks.length := by
   have := (hav.2.1 (by simp)).2
   have := ho.k1
   omega
  obtain ⟨bm, cm, hue, hcm, hbmB, hbmW, hcell, hfz⟩ := intCell hFr3H.out.st.locks (show v < s.locks.length from hvm)
  have hue : u3 = .slice (some ⟨bm, 0, none⟩) s.locks.length cm := hue
  subst hue
  have hgm : W3.cell? ⟨g, 3, none⟩ = some (.slice (some ⟨bm, 0, none⟩) s.locks.length cm) := by simpa using hFr3H.out.st.row 3 _ rfl
  have hvm' : (v : Int) < s.locks.length := by omega
  have ht3 : t < 3 := by have := ho.n1; omega
  clear sm3
  have hfin : Hid (ReadSt (W3.setCell ⟨bm, v, none⟩ (.int .i64 (0))) (.pointer (some ⟨g, 0, none⟩)) { s with pcs := s.pcs.set t ((k : Int) + 1), locks := s.locks.set v (0) }) := (hFr3H.out.locks v (0)).readSt
  have hfb : Hid (Below w.heap.size w (W3.setCell ⟨bm, v, none⟩ (.int .i64 (0)))) := hBw.out.setCell (p := ⟨bm, v, none⟩) (by show w.heap.size ≤ bm; omega) _
  have hac : Hid (actS s t ⟨5, (v : Int), an⟩ = { s with pcs := s.pcs.set t ((k : Int) + 1), locks := s.locks.set v (0) }) := by
   show _ = _
   simp [actS, htp, hk]
  go_wp2_with fail
  go_still_tail 7, (by kernel_rfl)
  go_wp2
  go_ret
  exact ⟨⟨_, rfl, by rw [hac.out]; exact hfin.out.below (Below.drew (Below.refl _ _))⟩, Below.drew hfb.out⟩
end Go.Proofs.YtknbchheoloaoaaGreat
