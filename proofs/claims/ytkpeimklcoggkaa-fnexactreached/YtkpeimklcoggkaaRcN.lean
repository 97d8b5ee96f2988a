/- The program's tour: from the roots on. -/
import Derived.Test.YtkpeimklcoggkaaRcM
namespace Go.Proofs.Ytkpeimklcoggkaa
set_option linter.unusedVariables false
open Go.ChangeShapes Go.WideShapes Go.ChangeAt Go.RowKit Go.Maps

theorem comes_len {N : Nat} {row : List Int} (zs : List Int) (h : row.Nodup) (hr : ∀ x ∈ row, 1 ≤ x ∧ x ≤ (N : Int)) : (comes N row zs).length ≤ N :=
  len_le N _ (nodup_comes N zs h) (fun x hx => by
    rcases (mem_comes N zs row x).1 hx with q | ⟨_, q⟩
    · exact hr x q
    · exact q)
theorem TourW.alloc {w wr : World} {u0 : Value} {T B R M : Nat} {rv : Value} {row : List Int} (h : TourW w wr u0 T B R M rv row) (o : Obj) : TourW w (wr.alloc o) u0 T B R M rv row := by
  have hg := World.grownBy_alloc wr o none
  obtain ⟨i1, i2, i3⟩ := h.hi
  have hblk := Below.heap_alloc wr o R i3
  refine ⟨h.hb.alloc h.hb.size o, hg.cell h.t0 (by simp), hg.cell h.t1 (by simp), hg.cell h.b0 (by simp), hg.cell h.r0 (by simp), (World.frozen?_of_block (w := wr) hblk).trans h.rf, own_alloc h.own o, h.met.kept hg (by simp), h.lo, ?_, h.ne, h.ap⟩
  simp only [World.size_alloc]
  omega
theorem TourW.drewN {w wr : World} {u0 : Value} {T B R M : Nat} {rv : Value} {row : List Int} (h : TourW w wr u0 T B R M rv row) (n : Nat) : TourW w (wr.drewN n) u0 T B R M rv row :=
  ⟨⟨h.hb.os, h.hb.tape, h.hb.output, h.hb.size, h.hb.block⟩, h.t0, h.t1, h.b0, h.r0, h.rf, h.own, h.met, h.lo, h.hi, h.ne, h.ap⟩
theorem tour_start {w wr : World} {u0 : Value} {T M : Nat} (hb : Below w.heap.size w wr) (h0 : wr.cell? ⟨T, 0, none⟩ = some u0) (h1 : wr.cell? ⟨T, 1, none⟩ = some (.map (some M))) (hm : MetMap wr M []) (hT : w.heap.size ≤ T) (hM : w.heap.size ≤ M) (hT2 : T < wr.heap.size) (hne : T ≠ M) (t1 t2 : TypeId) :
    TourW w ((wr.alloc (.cells #[.pointer (some ⟨T, 0, none⟩)] t1)).alloc (.cells #[.slice none 0 0] t2)) u0 T wr.heap.size (wr.heap.size + 1) M (.slice none 0 0) [] := by
  have g1 := World.grownBy_alloc wr (.cells #[.pointer (some ⟨T, 0, none⟩)] t1) none
  have g2 := World.grownBy_alloc (wr.alloc (.cells #[.pointer (some ⟨T, 0, none⟩)] t1)) (.cells #[.slice none 0 0] t2) none
  have hml := hm.lt
  have hs := hb.size
  have e1 := heap_alloc_new (wr.alloc (.cells #[.pointer (some ⟨T, 0, none⟩)] t1)) (.cells #[.slice none 0 0] t2)
  simp only [World.size_alloc] at e1
  refine ⟨(hb.alloc hb.size _).alloc (by simp; omega) _, g2.cell (g1.cell h0 (by simp)) (by simp), g2.cell (g1.cell h1 (by simp)) (by simp), g2.cell (cell_one_new _ _ _ 0 _ rfl) (by simp), ?_, ?_, World.ownsRow_nil _ _ _ _, (hm.kept g1 (by simp)).kept g2 (by simp), ⟨hT, hs, by omega, hM⟩, ?_, ?_, ?_⟩
  · simp only [World.cell?, e1]; rfl
  · simp only [World.frozen?, e1]; simp
  · simp only [World.size_alloc]; omega
  · refine ⟨hne, ?_, ?_, ?_, ?_⟩ <;> omega
  · simp [Value.ownBlock]

theorem objAt_keep {own : Bool} {lo hi : Nat} {w : World} {a : Option Addr} {n c : Nat} {objs : List ObjL} (h : ListAt ObjR 3 own lo hi w (.slice a n c) objs) (hh : hi ≤ w.heap.size) (m : Nat) (hm : m < objs.length) : ∃ b off ua uc, a = some ⟨b, off, none⟩ ∧ ∀ W, Below w.heap.size w W → ObjAt W b off objs m hm ua uc := by
  obtain ⟨b, off, row, ha, hb, hl, hr, ⟨u, rfl, hu⟩⟩ := h.at m hm
  obtain ⟨ua, uc, rfl⟩ := hu.form
  refine ⟨b, off, ua, uc, ha, fun W hW => ⟨?_, fun j hj => ?_⟩⟩
  · rw [hW.cell (p := ⟨b, off + m * 3 + 2, none⟩) (by show b < _; omega)]; simpa using hr 2 _ rfl
  · obtain ⟨g, o, row2, hua, hg, hl2, hr2, hx2⟩ := hu.at j hj
    have hx2 : row2 = [.int .i64 objs[m].vals[j].kind, .int .i64 objs[m].vals[j].n] := hx2
    subst hx2
    refine ⟨g, o, hua, ?_, ?_⟩
    · rw [hW.cell (p := ⟨g, o + j * 2, none⟩) (by show g < _; omega)]; simpa using hr2 0 _ rfl
    · rw [hW.cell (p := ⟨g, o + j * 2 + 1, none⟩) (by show g < _; omega)]; simpa using hr2 1 _ rfl
def ReachQ (objs : List ObjL) (roots : List Int) (w : World) (e : Ending) (w' : World) : Prop := ∃ (rv : Value) (row : List Int) (k : Nat), e = .returned rv ∧ Bfs objs.length roots (outOf objs) row k ∧ row.length ≤ k ∧ w'.ownsRow w.heap.size 2 1 rv row.length (row.map (Value.int .i64)) ∧ Below w.heap.size w w'

set_option maxRecDepth 1000000 in
set_option maxHeartbeats 4000000 in
theorem tourReached_calls (w wr0 : World) (a0 : Option Addr) (N c0 T M : Nat) (objs : List ObjL) (roots : List Int) (rb rc Rn : Nat) (hNo : Hid (N = objs.length)) (hRn : Hid (Rn = roots.length)) (hn : N ≤ 4000) (hR : Rn ≤ 4000)
    (hoH : Hid (∀ m (hm : m < objs.length), ∃ b off ua uc, a0 = some ⟨b, off, none⟩ ∧ ∀ W, Below w.heap.size w W → ObjAt W b off objs m hm ua uc)) (hrb : rb < w.heap.size)
    (hrc : Hid (∀ j (h : j < roots.length), w.cell? ⟨rb, j, none⟩ = some (.int .i64 roots[j]))) (hs : Hid ((objs.map (fun x => x.vals.length)).sum ≤ 1048576))
    (hb : Below w.heap.size w wr0) (h0 : wr0.cell? ⟨T, 0, none⟩ = some (.slice a0 N c0)) (h1 : wr0.cell? ⟨T, 1, none⟩ = some (.map (some M))) (hm : MetMap wr0 M []) (hT : w.heap.size ≤ T) (hM : w.heap.size ≤ M) (hT2 : T < wr0.heap.size) (hne : T ≠ M) :
    Calls Try.prog 18 #[.pointer (some ⟨T, 0, none⟩), .slice (some ⟨rb, 0, none⟩) Rn rc] wr0 fun e w' => ReachQ objs roots w e w' := by
  obtain ⟨B, hB⟩ : ∃ B, B = wr0.heap.size := ⟨_, rfl⟩
  have hst : Hid (TourW w ((wr0.alloc (.cells #[.pointer (some ⟨T, 0, none⟩)] 56)).alloc (.cells #[.slice none 0 0] 23)) (.slice a0 N c0) T wr0.heap.size (wr0.heap.size + 1) M (.slice none 0 0) []) := tour_start hb h0 h1 hm hT hM hT2 hne _ _
  clear h0 h1 hm hT hM hT2 hne hb hB
  have hn' : (N : Int) ≤ 4000 := by omega
  have hR' : (Rn : Int) ≤ 4000 := by omega
  go_enter Try.func18, Try.ntmps18
  go_wp2_with fail
  obtain ⟨W0, hW0⟩ : ∃ W0, W0 = ((wr0.alloc (.cells #[.pointer (some ⟨T, 0, none⟩)] 56)).alloc (.cells #[.slice none 0 0] 23)) := ⟨_, rfl⟩
  rw [← hW0] at hst ⊢
  generalize wr0.heap.size = B at *
  clear hW0
  go_loopw [15] (fun iv wr => ∃ (i : Nat) (rv : Value), i ≤ Rn ∧ iv = .int .i64 i ∧ Hid (TourW w wr (.slice a0 N c0) T B (B + 1) M rv (comes N [] (roots.take i)))) (fun iv _ => Rn - (intOf iv).toNat)
  case atStart => exact ⟨0, _, Nat.zero_le _, rfl, by simpa [comes] using hst⟩
  case round =>
    obtain ⟨i, rv, hi', rfl, hM⟩ := hrel
    by_cases hlt : i < Rn
    · have hlt' : (i : Int) < Rn := by omega
      have hi0 : (0 : Int) ≤ i := by omega
      have hir : i < roots.length := by rw [← hRn.out]; exact hlt
      have hcr : wr.cell? ⟨rb, i, none⟩ = some (.int .i64 roots[i]) := by rw [hM.out.hb.cell (p := ⟨rb, i, none⟩) hrb]; exact hrc.out i hir
      have hcome : Hid (Calls Try.prog 25 #[.int .i64 roots[i], .pointer (some ⟨B, 0, none⟩), .pointer (some ⟨B + 1, 0, none⟩)] wr fun e w' => e = .returned (.tuple #[]) ∧ ∃ rv', TourW w w' (.slice a0 N c0) T B (B + 1) M rv' (comeL N (comes N [] (roots.take i)) roots[i])) :=
        come_calls roots[i] w wr a0 N c0 T B (B + 1) M rv _ hn (Nat.le_trans (comes_len _ (by simp) (by simp)) hn) hM.out
      have hsn : Hid (comes N [] (roots.take (i + 1)) = comeL N (comes N [] (roots.take i)) roots[i]) := by
        show _ = _
        rw [List.take_succ_eq_append_getElem hir, comes_snoc]
      clear hM
      generalize roots[i] = z at *
      go_wp2_with (first | (go_at_call 25; refine hcome.out.mono ?_; rintro e w1 ⟨rfl, rv1, hT1⟩))
      go_roundw
      case rel => exact ⟨i + 1, rv1, by omega, by go_num, by rw [hsn.out]; exact hT1⟩
      case measure => simp [intOf]; omega
    · have hie : i = Rn := by omega
      have hM2 : Hid (TourW w wr (.slice a0 N c0) T B (B + 1) M rv (comes N [] roots)) := by
        have := hM.out
        rw [hie, hRn.out, List.take_length] at this
        exact this
      have hB0 : Hid (Bfs N roots (outOf objs) (comes N [] roots) 0) := Bfs.start _ _ _
      subst hie
      clear hM hi' hlt
      go_wp2_with fail
      rename World => wo1
      rename_i wr1
      clear hst
      go_loopw [9] (fun av wr => ∃ (k : Nat) (rv : Value) (row : List Int), av = .int .i64 k ∧ Hid (TourW w wr (.slice a0 N c0) T B (B + 1) M rv row) ∧ Hid (Bfs N roots (outOf objs) row k) ∧ k ≤ N) (fun av _ => N - (intOf av).toNat)
      case atStart => exact ⟨0, _, _, rfl, hM2, hB0, Nat.zero_le _⟩
      case round =>
        clear hM2 hB0
        obtain ⟨k, rv, row, rfl, hM, hF, hkN⟩ := hrel
        obtain ⟨ra, rc', rfl⟩ := own_form hM.out.own
        have hcR := hM.out.r0
        have hrl : Hid (row.length ≤ N) := hF.out.len
        obtain ⟨ln, hln⟩ : ∃ ln, ln = row.length := ⟨_, rfl⟩
        have hlnH : Hid (ln = row.length) := hln
        rw [← hln] at hM hcR hrl
        have hlb : (ln : Int) ≤ 4000 := by have := hrl.out; omega
        clear hln
        by_cases hlt : k < ln
        · have hlt' : (k : Int) < ln := by omega
          have hk0 : (0 : Int) ≤ k := by omega
          have hkl : k < row.length := by rw [← hlnH.out]; exact hlt
          obtain ⟨x, hx⟩ : ∃ x, row[k]? = some x := ⟨_, List.getElem?_eq_getElem hkl⟩
          obtain ⟨m, rfl⟩ : ∃ m : Nat, x = (m : Int) + 1 := ⟨(x - 1).toNat, by have := hF.out.rng x (List.mem_of_getElem? hx); omega⟩
          have hmN : m < N := by have := hF.out.rng _ (List.mem_of_getElem? hx); omega
          have hmo : m < objs.length := by rw [← hNo.out]; exact hmN
          obtain ⟨g, gc, hge⟩ := own_some hM.out.own (by omega)
          injection hge with hge1 _ _
          subst hge1
          have hcX : wr.cell? ⟨g, k, none⟩ = some (.int .i64 ((m : Int) + 1)) := by
            have := hM.out.own
            rw [← hlnH.out] at this
            rw [this.cellAt k (by omega)]; simp [hx]
          obtain ⟨b, off, ua, uc, rfl, hoK⟩ := hoH.out m hmo
          have hoKH : Hid (∀ W, Below w.heap.size w W → ObjAt W b off objs m hmo ua uc) := hoK
          have hO := hoK wr hM.out.hb
          clear hoK
          obtain ⟨vs, hvs⟩ : ∃ vs, vs = objs[m].vals := ⟨_, rfl⟩
          have hvsH : Hid (vs = objs[m].vals) := hvs
          have hcv : wr.cell? ⟨b, off + m * 3 + 2, none⟩ = some (.slice ua vs.length uc) := by rw [hvs]; exact hO.cell
          have hout : Hid (outOf objs ((m : Int) + 1).toNat = refsT vs) := by
            show _ = _
            rw [show ((m : Int) + 1).toNat = m + 1 by omega, outOf_eq (by omega) (by omega), hvs]; rfl
          have hvl : Hid (vs.length ≤ 1048576) := by
            have h1 := sum_mem_le (fun x : ObjL => x.vals.length) objs objs[m] (List.getElem_mem hmo)
            have h2 := hs.out
            show _ ≤ _
            rw [hvs]; omega
          have hvb : (vs.length : Int) ≤ 1048576 := by have := hvl.out; omega
          have hxH : Hid (row[k]? = some ((m : Int) + 1)) := hx
          have hm0 : (0 : Int) ≤ m := by omega
          have hmN' : (m : Int) < N := by omega
          have hcB := hM.out.b0
          have hcT := hM.out.t0
          have hd0 : Hid (row.Nodup) := hF.out.nd
          have hd1 : Hid (∀ x ∈ row, 1 ≤ x ∧ x ≤ (N : Int)) := hF.out.rng
          have hwm : IntKind.i64.wrap (m : Int) = (m : Int) := by rw [IntKind.wrap_i64]; omega
          have hkN' : k + 1 ≤ N := by have := hrl.out; omega
          clear hx hvs hO hkl hlnH hrl
          go_wp2
          go_quiet (fail)
          go_wp2_with fail
          clear hcX hcv hcB hcT hcR
          rename World => wo2
          go_loopw [42] (fun iv wr => ∃ (i : Nat) (rv : Value), i ≤ vs.length ∧ iv = .int .i64 i ∧ Hid (TourW w wr (.slice (some ⟨b, off, none⟩) N c0) T B (B + 1) M rv (comes N row (refsT (vs.take i))))) (fun iv _ => vs.length - (intOf iv).toNat)
          case atStart => exact ⟨0, _, Nat.zero_le _, rfl, by have h9 : Hid (TourW w (wo2.drewN nq) (.slice (some ⟨b, off, none⟩) N c0) T B (B + 1) M _ row) := hM.out.drewN nq; simpa [comes, refsT] using h9⟩
          case round =>
            obtain ⟨i, rv, hi', rfl, hM⟩ := hrel
            have hcl : Hid ((comes N row (refsT (vs.take i))).length ≤ 4000) := Nat.le_trans (comes_len _ hd0.out hd1.out) hn
            by_cases hlt : i < vs.length
            · have hlt' : (i : Int) < vs.length := by omega
              have hi0 : (0 : Int) ≤ i := by omega
              have hlo : i < objs[m].vals.length := by rw [← hvsH.out]; exact hlt
              obtain ⟨gv, ov, rfl, hkc, hnc⟩ := (hoKH.out wr hM.out.hb).vals i hlo
              have hsn : Hid (refsT (vs.take (i + 1)) = refsT (vs.take i) ++ (if objs[m].vals[i].kind = 4 then [objs[m].vals[i].n] else [])) := by
                have := refsT_snoc vs i hlt
                show _ = _
                rw [this]
                have e : vs[i] = objs[m].vals[i] := by simp only [hvsH.out]
                rw [e]
              generalize objs[m].vals[i].kind = kd at *
              generalize objs[m].vals[i].n = z at *
              clear hlo
              have hMa : Hid (∀ o, TourW w (wr.alloc o) (.slice (some ⟨b, off, none⟩) N c0) T B (B + 1) M rv (comes N row (refsT (vs.take i)))) := fun o => hM.out.alloc o
              by_cases k4 : kd = 4
              · have hsn2 : Hid (refsT (vs.take (i + 1)) = refsT (vs.take i) ++ [z]) := by show _ = _; rw [hsn.out, if_pos k4]
                subst k4
                clear hsn
                have hcome : Hid (∀ o, Calls Try.prog 25 #[.int .i64 z, .pointer (some ⟨B, 0, none⟩), .pointer (some ⟨B + 1, 0, none⟩)] (wr.alloc o) fun e w' => e = .returned (.tuple #[]) ∧ ∃ rv', TourW w w' (.slice (some ⟨b, off, none⟩) N c0) T B (B + 1) M rv' (comeL N (comes N row (refsT (vs.take i))) z)) :=
                  fun o => come_calls z w _ _ N c0 T B (B + 1) M rv _ hn hcl.out (hMa.out o)
                go_wp2_with (first | (go_at_call 25; refine (hcome.out _).mono ?_; rintro e w1 ⟨rfl, rv1, hT1⟩))
                go_roundw
                case rel => exact ⟨i + 1, rv1, by omega, by go_num, by rw [hsn2.out, comes_snoc]; exact hT1⟩
                case measure => simp [intOf]; omega
              · have kb : (kd == 4) = false := by simpa using k4
                go_wp2
                go_roundw
                case rel => exact ⟨i + 1, rv, by omega, by go_num, by rw [hsn.out, if_neg k4, List.append_nil]; exact hMa.out _⟩
                case measure => simp [intOf]; omega
            · have hie : i = vs.length := by omega
              have hM3 : Hid (TourW w wr (.slice (some ⟨b, off, none⟩) N c0) T B (B + 1) M rv (comes N row (outOf objs ((m : Int) + 1).toNat))) := by
                have := hM.out
                rw [hie, List.take_length, ← hout.out] at this; exact this
              have hF3 : Hid (Bfs N roots (outOf objs) (comes N row (outOf objs ((m : Int) + 1).toNat)) (k + 1)) := hF.out.step _ hxH.out
              clear hM
              go_wp2
              go_roundw
              case rel => exact ⟨k + 1, rv, _, by go_num, hM3, hF3, hkN'⟩
              case measure => simp [intOf]; omega
        · have hfin : Hid (ReachQ objs roots w (.returned (.slice ra ln rc')) wr) := by
            have hF2 := hF.out
            rw [hNo.out] at hF2
            exact ⟨_, row, k, rfl, hF2, by rw [← hlnH.out]; omega, by rw [← hlnH.out]; exact hlnH.out ▸ hM.out.own, hM.out.hb⟩
          go_wp2
          go_ret
          exact hfin.out
end Go.Proofs.Ytkpeimklcoggkaa
