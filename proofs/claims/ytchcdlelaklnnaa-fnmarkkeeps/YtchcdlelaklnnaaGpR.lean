/- The program's search: reach. -/
import Derived.Test.YtchcdlelaklnnaaGpL
namespace Go.Proofs.Ytchcdlelaklnnaa
set_option linter.unusedVariables false
open Go.ChangeShapes Go.WideShapes Go.ChangeAt Go.RowKit

/-- Where the search stands, with the row of objects that it was given. -/
structure RcW (wB wr : World) (V M L b0 : Nat) (objs : List GobL) (g : Int → Value) (lv : List Int) (lvv : Value) (row : List Nat) (rv : Value) : Prop where
  co : CoW wB wr V M L objs g lv lvv
  own : wr.ownsRow wB.heap.size 83 1 rv row.length (ptrsV b0 row)
theorem RcW.come {wB wr w' : World} {V M L b0 : Nat} {objs : List GobL} {g : Int → Value} {lv lv' : List Int} {lvv lvv' : Value} {row : List Nat} {rv : Value} (h : RcW wB wr V M L b0 objs g lv lvv row rv) (hc : CoW wB w' V M L objs g lv' lvv') (hk : ∀ (k : Nat) cur fz, wr.heap[k]? = some (Obj.cells cur 83 fz) → w'.heap[k]? = wr.heap[k]?) : RcW wB w' V M L b0 objs g lv' lvv' row rv := by
  refine ⟨hc, own_kept h.own fun k hk' => ?_⟩
  rcases h.own.2 with ⟨q, _⟩ | ⟨k', cap, cur, q, _, hm, _⟩
  · rw [q] at hk'; simp [Value.ownBlock] at hk'
  · rw [q] at hk'
    simp only [Value.ownBlock, Option.some.injEq] at hk'
    subst hk'
    exact hk _ _ _ hm
theorem RcW.apart {wB wr : World} {V M L b0 : Nat} {objs : List GobL} {g : Int → Value} {lv : List Int} {lvv : Value} {row : List Nat} {rv : Value} (h : RcW wB wr V M L b0 objs g lv lvv row rv) {k : Nat} (hk : rv.ownBlock = some k) : wB.heap.size ≤ k ∧ lvv.ownBlock ≠ some k := by
  refine ⟨(World.ownsRow.lt h.own k hk).1, fun e => ?_⟩
  rcases h.own.2 with ⟨q, _⟩ | ⟨k1, cap, cur, q, _, hm, _⟩
  · rw [q] at hk; simp [Value.ownBlock] at hk
  · rcases h.co.lo.2 with ⟨q', _⟩ | ⟨k2, cap', cur', q', _, hm', _⟩
    · rw [q'] at e; simp [Value.ownBlock] at e
    · rw [q] at hk
      rw [q'] at e
      simp only [Value.ownBlock, Option.some.injEq] at hk e
      subst hk
      rw [e, hm] at hm'
      cases hm'
theorem RcW.push {wB wr w' : World} {V M L b0 : Nat} {objs : List GobL} {g : Int → Value} {lv : List Int} {lvv : Value} {row rs : List Nat} {rv rv' : Value} (h : RcW wB wr V M L b0 objs g lv lvv row rv) (hg : wr.grownBy w' rv.ownBlock) (ho : w'.ownsRow wB.heap.size 83 1 rv' (row.length + rs.length) (ptrsV b0 row ++ ptrsV b0 rs)) : RcW wB w' V M L b0 objs g lv lvv (row ++ rs) rv' :=
  ⟨h.co.kept hg fun k hk => h.apart hk, by rw [List.length_append, ptrsV_append]; exact ho⟩
theorem RcW.below {wB wr w' : World} {V M L b0 : Nat} {objs : List GobL} {g : Int → Value} {lv : List Int} {lvv : Value} {row : List Nat} {rv : Value} (h : RcW wB wr V M L b0 objs g lv lvv row rv) (hb : Below wr.heap.size wr w') : RcW wB w' V M L b0 objs g lv lvv row rv :=
  ⟨h.co.kept (row := none) ⟨hb.os, hb.tape, hb.output, hb.size, fun k hk _ => hb.block k hk⟩ (fun k hk => by simp at hk), own_below h.own hb fun k hk => (World.ownsRow.lt h.own k hk).2⟩
theorem CoW.cell {wB wr : World} {V M L : Nat} {objs : List GobL} {g : Int → Value} {lv : List Int} {lvv : Value} (h : CoW wB wr V M L objs g lv lvv) {k : Nat} (hk : k < wB.heap.size ∧ k ≠ M ∧ k ≠ L) (j : Nat) : wr.cell? ⟨k, j, none⟩ = wB.cell? ⟨k, j, none⟩ := World.cell?_of_block (w := wB) (h.old k hk.1 hk.2.1 hk.2.2)
theorem CoW.gob {wB wr : World} {V M L b0 k fb fc : Nat} {o : GobL} {objs : List GobL} {g : Int → Value} {lv : List Int} {lvv : Value} (h : CoW wB wr V M L objs g lv lvv) (hb : b0 < wB.heap.size ∧ b0 ≠ M ∧ b0 ≠ L) (hf : fb < wB.heap.size ∧ fb ≠ M ∧ fb ≠ L) (hG : GobAt wB b0 k o fb fc) : GobAt wr b0 k o fb fc :=
  ⟨(h.cell hb _).trans hG.c0, (h.cell hb _).trans hG.c1, (h.cell hb _).trans hG.c2, (h.cell hb _).trans hG.c3, (h.cell hb _).trans hG.c4, hG.cap, fun j hj => (h.cell hf _).trans (hG.fl j hj)⟩
def Rng (z : Int) : Prop := -9223372036854775808 ≤ z ∧ z ≤ 9223372036854775807
theorem own_at {w : World} {B : Nat} {v : Value} {row : List Nat} {b0 : Nat} (h : w.ownsRow B 83 1 v row.length (ptrsV b0 row)) {a : Nat} (ha : a < row.length) : ∃ rb rc, v = .slice (some ⟨rb, 0, none⟩) row.length rc ∧ row.length ≤ rc ∧ w.cell? ⟨rb, a, none⟩ = some (.pointer (some ⟨b0, row[a] * 5, none⟩)) := by
  rcases h.2 with ⟨_, e⟩ | ⟨g, cap, cur, rfl, _, _, hc, _⟩
  · omega
  · refine ⟨g, cap, rfl, hc, ?_⟩
    rw [World.ownsRow.cellAt h a (by omega)]
    simp [ptrsV, ha]
/-- What the search has come tof. -/
structure ReachP (wB w' : World) (V M L : Nat) (objs : List GobL) (g : Int → Value) (ids : List Int) : Prop where
  out : ∃ lv lvv row, CoW wB w' V M L objs g lv lvv ∧ PrG objs ids lv row ∧ ClG objs lv ids ∧ FoG objs lv row row.length
theorem outG_mem {o : GobL} {z : Int} (h : z ∈ outG o) : z ∈ o.flds := by
  unfold outG at h
  split at h
  · exact List.mem_of_mem_drop h
  · exact h

set_option maxRecDepth 100000 in
set_option maxHeartbeats 4000000 in
theorem reach_calls (wB : World) (B V M L b0 : Nat) (objs : List GobL) (g : Int → Value) (ids : List Int) (ia : Option Addr) (ic : Nat) (hG : GrW wB B M L b0 objs g) (h0 : CoW wB wB V M L objs g [] (.slice none 0 0)) (hn : objs.length ≤ 8000) (hil : ids.length ≤ 100000)
    (hids : ∀ j (hj : j < ids.length), ∃ ib, ia = some ⟨ib, 0, none⟩ ∧ (ib < wB.heap.size ∧ ib ≠ M ∧ ib ≠ L) ∧ wB.cell? ⟨ib, j, none⟩ = some (.int .i64 ids[j])) (hic : ids.length ≤ ic)
    (hb0 : b0 < wB.heap.size ∧ b0 ≠ M ∧ b0 ≠ L) (hob : ∀ k (hk : k < objs.length), ∃ fb fc, (fb < wB.heap.size ∧ fb ≠ M ∧ fb ≠ L) ∧ GobAt wB b0 k objs[k] fb fc)
    (hw1 : ∀ z ∈ ids, Rng z) (hw2 : ∀ o ∈ objs, ∀ z ∈ o.flds, Rng z) (hfl : ∀ o ∈ objs, o.flds.length ≤ 1048576) :
    Calls Try.prog 38 #[.slice ia ids.length ic, .bool true, .func (.func 40) #[] #[.pointer (some ⟨V, 0, none⟩), .pointer (some ⟨L, 0, none⟩)]] wB fun e w' => e = .returned (.tuple #[]) ∧ ReachP wB w' V M L objs g ids := by
  have hidsH : Hid (∀ j (hj : j < ids.length), ∃ ib, ia = some ⟨ib, 0, none⟩ ∧ (ib < wB.heap.size ∧ ib ≠ M ∧ ib ≠ L) ∧ wB.cell? ⟨ib, j, none⟩ = some (.int .i64 ids[j])) := hids
  have hobH : Hid (∀ k (hk : k < objs.length), ∃ fb fc, (fb < wB.heap.size ∧ fb ≠ M ∧ fb ≠ L) ∧ GobAt wB b0 k objs[k] fb fc) := hob
  have hGH : Hid (GrW wB B M L b0 objs g) := hG
  have hbH : Hid (b0 < wB.heap.size ∧ b0 ≠ M ∧ b0 ≠ L) := hb0
  have hw1H : Hid (∀ z ∈ ids, Rng z) := hw1
  have hw2H : Hid (∀ o ∈ objs, ∀ z ∈ o.flds, Rng z) := hw2
  have hflH : Hid (∀ o ∈ objs, o.flds.length ≤ 1048576) := hfl
  have hR0 : Hid (RcW wB wB V M L b0 objs g [] (.slice none 0 0) [] (.slice none 0 0)) := ⟨h0, rfl, .inl ⟨rfl, rfl⟩⟩
  obtain ⟨i9, hi9, hz9, hs9, hb9⟩ := info_parts (show (Try.prog.info? 83).map (fun i => (i.zero, i.size, i.bytes)) = some (some (.pointer none), 1, 8) by kernel_rfl)
  have hil' : (ids.length : Int) ≤ 100000 := by omega
  have hic' : (ids.length : Int) ≤ ic := by omega
  clear hG h0 hids hob hb0 hw1 hw2 hfl
  go_enter Try.func38, Try.ntmps38
  go_wp2_with fail
  go_loopw [6, 14] (fun rv i wr => ∃ (k : Nat) (lv : List Int) (lvv : Value) (row : List Nat), k ≤ ids.length ∧ i = .int .i64 k ∧ Hid (RcW wB wr V M L b0 objs g lv lvv row rv) ∧ Hid (PrG objs ids lv row) ∧ Hid (ClG objs lv (ids.take k))) (fun _ i _ => ids.length - (intOf i).toNat)
  case atStart => exact ⟨0, [], _, [], Nat.zero_le _, rfl, hR0, PrG.start _ _, fun z hz => by simp at hz⟩
  case round =>
    clear hR0
    obtain ⟨k, lv, lvv, row, hk, rfl, hR, hP, hC⟩ := hrel
    by_cases hlt : k < ids.length
    · have hlt' : (k : Int) < (ids.length : Int) := by omega
      have hk0 : (0 : Int) ≤ k := by omega
      obtain ⟨ib, rfl, hib, hcI⟩ := hidsH.out k hlt
      have kI : wr.cell? ⟨ib, k, none⟩ = some (.int .i64 ids[k]) := (hR.out.co.cell hib k).trans hcI
      have hz : Hid (Rng ids[k]) := hw1H.out _ (List.getElem_mem hlt)
      have hP2 : Hid (PrG objs ids (comeG objs lv ids[k]) (row ++ retL objs lv ids[k])) := hP.out.come fun q => .root (List.getElem_mem hlt) q
      have hC2 : Hid (ClG objs (comeG objs lv ids[k]) (ids.take (k + 1))) := hC.out.more hlt
      have hll : Hid (lv.length ≤ 8000) := by have := hP.out.len; show _ ≤ _; omega
      have hrl : Hid (row.length + (retL objs lv ids[k]).length ≤ 8000) := by have := hP2.out.rlen; rw [List.length_append] at this; show _ ≤ _; omega
      obtain ⟨ra, rc, rfl⟩ := own_slice hR.out.own
      clear hib hcI hP hC
      generalize ids[k] = z at *
      go_wp2_with (first
        | (go_at_call 40; refine (come_calls wB _ B V M L b0 objs g lv lvv z hz.out hGH.out hR.out.co hll.out).mono ?_; rintro e w1 ⟨v, rfl, hsrc, ⟨lvv', hco⟩, hk58, hs1⟩; have hR1 : Hid (RcW wB w1 V M L b0 objs g (comeG objs lv z) lvv' row (.slice ra row.length rc)) := hR.out.come hco hk58; have hsH : Hid (SrcAt w1 1 v (retL objs lv z).length (ptrsV b0 (retL objs lv z))) := hsrc; clear hsrc hk58)
        | (refine wpList_append_src rfl (.tmp 18) (.tmp 21) 84 rfl wB.heap.size 83 i9 (.pointer none) 1 8 Try.underlying84 hi9 hz9 hs9 hb9 rfl (by omega) _ row.length (ptrsV b0 row) rfl hR1.out.own _ _ _ rfl hsH.out (ptrsV_one _ _) (by have := hrl.out; unfold maxLen; omega) (by have := hrl.out; omega) hR1.out.co.siz (fun rv' w2 hown2 hgrow2 hat2 => ?_))
        | go_in)
      have hR2 : Hid (RcW wB w2 V M L b0 objs g (comeG objs lv z) lvv' (row ++ retL objs lv z) rv') := hR1.out.push hgrow2 hown2
      clear hown2 hgrow2 hat2 hR1 hsH
      go_roundw
      case rel => exact ⟨k + 1, _, _, _, by omega, by go_num, hR2, hP2, hC2⟩
      case measure => simp [intOf]; omega
    · have hge : ¬ ((k : Int) < (ids.length : Int)) := by omega
      have hkE : k = ids.length := by omega
      have hCA : Hid (ClG objs lv ids) := by have := hC.out; rw [hkE, List.take_length] at this; exact this
      clear hC hkE
      go_wp2_with fail
      go_loopw [6, 9] (fun rv i wr => ∃ (a : Nat) (lv : List Int) (lvv : Value) (row : List Nat), a ≤ row.length ∧ i = .int .i64 a ∧ Hid (RcW wB wr V M L b0 objs g lv lvv row rv) ∧ Hid (PrG objs ids lv row) ∧ Hid (ClG objs lv ids) ∧ Hid (FoG objs lv row a)) (fun _ i _ => objs.length - (intOf i).toNat)
      case atStart => exact ⟨0, lv, lvv, row, Nat.zero_le _, rfl, hR, hP, hCA, FoG.zero _ _ _⟩
      case round =>
        clear hR hP hCA
        obtain ⟨a, lv, lvv, row, ha, rfl, hR, hP, hCA, hFo⟩ := hrel
        have hrl : row.length ≤ objs.length := hP.out.rlen
        have ha0 : (0 : Int) ≤ a := by omega
        by_cases hlt : a < row.length
        · have hlt' : (a : Int) < (row.length : Int) := by omega
          have hrl' : (row.length : Int) ≤ 8000 := by omega
          obtain ⟨rb, rc, rfl, hrc, kR⟩ := own_at hR.out.own hlt
          have hrc' : (row.length : Int) ≤ rc := by omega
          obtain ⟨ix, hix⟩ : ∃ ix, ix = row[a] := ⟨_, rfl⟩
          have hix1 : Hid (row[a]? = some ix) := by show _ = _; rw [hix, List.getElem?_eq_getElem hlt]
          rw [← hix] at kR
          have hil2 : ix < objs.length := by obtain ⟨q, _⟩ := (hP.out.rows ix).1 (by rw [hix]; exact List.getElem_mem hlt); exact q
          clear hix
          obtain ⟨fb, fc, hfb, hgB⟩ := hobH.out ix hil2
          have hgW : Hid (GobAt wr b0 ix objs[ix] fb fc) := hR.out.co.gob hbH.out hfb hgB
          have hbw : Hid (b0 < wr.heap.size) := by have := hbH.out.1; have := hR.out.co.siz; show _ < _; omega
          have hol : Hid ((outG objs[ix]).length ≤ 1048576) := by
            have := hflH.out _ (List.getElem_mem hil2)
            show _ ≤ _
            unfold outG
            split
            · simp; omega
            · exact this
          have hstep : Hid (∀ lv' row', PrG objs ids lv' row' → row'[a]? = some ix → ∀ z ∈ outG objs[ix], hasG objs z → LiveG objs ids z) := fun lv' row' hp hr z hz => by
            obtain ⟨q, hq⟩ := List.getElem?_eq_some_iff.1 hr
            subst hq
            exact hp.step q hil2 hz
          have hrn : Hid (∀ z ∈ outG objs[ix], Rng z) := fun z hz => hw2H.out _ (List.getElem_mem hil2) z (outG_mem hz)
          have hfoE : Hid (∀ lv' row', ClG objs lv' (outG objs[ix]) → row'[a]? = some ix → FoG objs lv' row' a → FoG objs lv' row' (a + 1)) := fun lv' row' hc hr hf => by
            obtain ⟨q, hq⟩ := List.getElem?_eq_some_iff.1 hr
            subst hq
            exact hf.more q fun _ => hc
          go_upto_region 10 with (first
            | (go_at_call 61; refine (leads_calls wr b0 ix objs[ix] fb fc hgW.out hbw.out).mono ?_; rintro e w1 ⟨off, c, rfl, hb1, hcl⟩)
            | go_in)
          have hR1 : Hid (RcW wB w1 V M L b0 objs g lv lvv row (.slice (some ⟨rb, 0, none⟩) row.length rc)) := hR.out.below hb1
          have hclB : Hid (∀ (j : Nat) (hj : j < (outG objs[ix]).length), wB.cell? ⟨fb, off + j, none⟩ = some (.int .i64 (outG objs[ix])[j])) := fun j hj => (hR.out.co.cell hfb _).symm.trans (hcl j hj)
          have hfbH : Hid (fb < wB.heap.size ∧ fb ≠ M ∧ fb ≠ L) := hfb
          have hal : Hid (a < row.length) := hlt
          clear hgW hgB hbw hcl hb1 hR hfb kR
          generalize outG objs[ix] = os at *
          have hol' : (os.length : Int) ≤ 1048576 := by have := hol.out; omega
          go_loopw [6, 37] (fun rv i wr => ∃ (j : Nat) (lv : List Int) (lvv : Value) (row : List Nat), j ≤ os.length ∧ i = .int .i64 j ∧ Hid (a < row.length) ∧ Hid (row[a]? = some ix) ∧ Hid (RcW wB wr V M L b0 objs g lv lvv row rv) ∧ Hid (PrG objs ids lv row) ∧ Hid (ClG objs lv ids) ∧ Hid (FoG objs lv row a) ∧ Hid (ClG objs lv (os.take j))) (fun _ i _ => os.length - (intOf i).toNat)
          case atStart => exact ⟨0, lv, lvv, row, Nat.zero_le _, rfl, hal, hix1, hR1, hP, hCA, hFo, fun z hz => by simp at hz⟩
          case round =>
            clear hR1 hP hCA hFo hix1 hal hrl hrl' hlt hlt' hrc hrc' ha
            obtain ⟨j, lv, lvv, row, hj, rfl, hal, hix1, hR, hP, hCA, hFo, hCl⟩ := hrel
            have hj0 : (0 : Int) ≤ j := by omega
            by_cases hlt : j < os.length
            · have hlt' : (j : Int) < (os.length : Int) := by omega
              have kI : wr.cell? ⟨fb, off + j, none⟩ = some (.int .i64 os[j]) := (hR.out.co.cell hfbH.out _).trans (hclB.out j hlt)
              have hz : Hid (Rng os[j]) := hrn.out _ (List.getElem_mem hlt)
              have hP2 : Hid (PrG objs ids (comeG objs lv os[j]) (row ++ retL objs lv os[j])) := hP.out.come (hstep.out _ _ hP.out hix1.out _ (List.getElem_mem hlt))
              have hC2 : Hid (ClG objs (comeG objs lv os[j]) (os.take (j + 1))) := hCl.out.more hlt
              have hCA2 : Hid (ClG objs (comeG objs lv os[j]) ids) := hCA.out.come
              have hFo2 : Hid (FoG objs (comeG objs lv os[j]) (row ++ retL objs lv os[j]) a) := hFo.out.come (by have := hal.out; omega)
              have hix2 : Hid ((row ++ retL objs lv os[j])[a]? = some ix) := (List.getElem?_append_left hal.out).trans hix1.out
              have hal2 : Hid (a < (row ++ retL objs lv os[j]).length) := by have := hal.out; show _ < _; rw [List.length_append]; omega
              have hll : Hid (lv.length ≤ 8000) := by have := hP.out.len; show _ ≤ _; omega
              have hrl : Hid (row.length + (retL objs lv os[j]).length ≤ 8000) := by have := hP2.out.rlen; rw [List.length_append] at this; show _ ≤ _; omega
              obtain ⟨ra, rc, rfl⟩ := own_slice hR.out.own
              clear hP hCA hFo hCl hix1 hal
              generalize os[j] = z at *
              go_wp2_with (first
                | (go_at_call 40; refine (come_calls wB _ B V M L b0 objs g lv lvv z hz.out hGH.out hR.out.co hll.out).mono ?_; rintro e w1 ⟨v, rfl, hsrc, ⟨lvv', hco⟩, hk58, hs1⟩; have hR1 : Hid (RcW wB w1 V M L b0 objs g (comeG objs lv z) lvv' row (.slice ra row.length rc)) := hR.out.come hco hk58; have hsH : Hid (SrcAt w1 1 v (retL objs lv z).length (ptrsV b0 (retL objs lv z))) := hsrc; clear hsrc hk58)
                | (refine wpList_append_src rfl (.tmp 41) (.tmp 44) 84 rfl wB.heap.size 83 i9 (.pointer none) 1 8 Try.underlying84 hi9 hz9 hs9 hb9 rfl (by omega) _ row.length (ptrsV b0 row) rfl hR1.out.own _ _ _ rfl hsH.out (ptrsV_one _ _) (by have := hrl.out; unfold maxLen; omega) (by have := hrl.out; omega) hR1.out.co.siz (fun rv' w2 hown2 hgrow2 hat2 => ?_))
                | go_in)
              have hR2 : Hid (RcW wB w2 V M L b0 objs g (comeG objs lv z) lvv' (row ++ retL objs lv z) rv') := hR1.out.push hgrow2 hown2
              clear hown2 hgrow2 hat2 hR1 hsH
              go_roundw
              case rel => exact ⟨j + 1, _, _, _, by omega, by go_num, hal2, hix2, hR2, hP2, hCA2, hFo2, hC2⟩
              case measure => simp [intOf]; omega
            · have hge3 : ¬ ((j : Int) < (os.length : Int)) := by omega
              have hjE : j = os.length := by omega
              have hC3 : Hid (ClG objs lv os) := by have := hCl.out; rw [hjE, List.take_length] at this; exact this
              have hFo3 : Hid (FoG objs lv row (a + 1)) := hfoE.out _ _ hC3.out hix1.out hFo.out
              have hal3 : Hid (a + 1 ≤ row.length) := hal.out
              have hrl3 : Hid (row.length ≤ objs.length) := hP.out.rlen
              clear hCl hjE hC3 hFo hal
              have ha8 : (a : Int) ≤ 8000 := by have := hal3.out; have := hrl3.out; omega
              go_wp2
              go_roundw
              case rel => exact ⟨a + 1, lv, lvv, row, hal3.out, by go_num, hR, hP, hCA, hFo3⟩
              case measure => have := hal3.out; have := hrl3.out; simp [intOf]; omega
        · have hge2 : ¬ ((a : Int) < (row.length : Int)) := by omega
          have haE : a = row.length := by omega
          have hFoE : Hid (FoG objs lv row row.length) := by have := hFo.out; rw [haE] at this; exact this
          obtain ⟨ra, rc, rfl⟩ := own_slice hR.out.own
          clear hFo haE
          go_wp2
          first | (refine bodyPost_ret (results_none rfl _ _ _) rfl ?_) | go_end0
          exact ⟨rfl, ⟨lv, lvv, row, hR.out.co, hP.out, hCA.out, hFoE.out⟩⟩
end Go.Proofs.Ytchcdlelaklnnaa
