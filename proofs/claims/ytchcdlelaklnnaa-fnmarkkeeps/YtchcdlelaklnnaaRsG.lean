/- spec.MarkReached of a heap that was told. -/
import Derived.Test.YtchcdlelaklnnaaRsP
import Derived.Test.YtchcdlelaklnnaaRl
namespace Go.Proofs.Ytchcdlelaklnnaa
set_option linter.unusedVariables false
open Go.ChangeShapes Go.WideShapes Go.ChangeAt Go.RowKit

def lenV : Value → Nat
  | .slice _ n _ => n
  | _ => 0
theorem src_cells {W : World} {b n c o m : Nat} {zs : List Int} (h : ∀ j (hj : j < zs.length), W.cell? ⟨b, j, none⟩ = some (.int .i64 zs[j])) (hm : m ≤ zs.length) (ho : m < zs.length → o = m) (cc : Nat) : SrcAt W 1 (.slice (some ⟨b, o, none⟩) (zs.length - m) cc) (zs.length - m) (intsV (zs.drop m)) := by
  refine .inr ⟨⟨b, o, none⟩, cc, rfl, by rw [intsV_length]; simp, fun j u hj => ?_⟩
  obtain ⟨hj1, hj2⟩ := List.getElem?_eq_some_iff.1 hj
  have hjl : j < zs.length - m := by rw [intsV_length] at hj1; simpa using hj1
  obtain rfl := ho (by omega)
  rw [Addr.add_lit, h (o + j) (by omega), ← hj2]
  simp [intsV]
/-- The numbers of a row in memory, read. -/
def intsW (v : Value) (w : World) : List Int :=
  match v with
  | .slice (some a) n _ => (List.range n).map fun j => ((w.cell? ⟨a.block, j, none⟩).map intOf).getD 0
  | _ => []
theorem intsW_eq {B : Nat} {w : World} {g c : Nat} {zs : List Int} (h : OutAt B w (.slice (some ⟨g, 0, none⟩) zs.length c) zs) : intsW (.slice (some ⟨g, 0, none⟩) zs.length c) w = zs := by
  unfold intsW
  refine List.ext_getElem (by simp) fun j h1 h2 => ?_
  simp [h.cell h2, intOf]
/-- Where the search stands in memory. -/
structure MvW (w wr : World) (row : List Value) (tb tof tc : Nat) (todo : List Int) (ob oc : Nat) (out : List Int) : Prop where
  hb : Below w.heap.size w wr
  box : wr.rangeAt w.heap.size 0 row
  bx : w.heap.size < wr.heap.size
  todo : TodoAt (w.heap.size + 1) wr tb tof tc todo
  out : OutAt (w.heap.size + 1) wr (.slice (some ⟨ob, 0, none⟩) out.length oc) out
  d3 : tb ≠ ob
theorem MvW.on {w wr W : World} {row : List Value} {tb tof tc : Nat} {todo : List Int} {ob oc : Nat} {out : List Int} (h : MvW w wr row tb tof tc todo ob oc out) (hW : Below wr.heap.size wr W) : MvW w W row tb tof tc todo ob oc out :=
  ⟨h.hb.trans (hW.mono h.hb.size), fun j v hv => (hW.cell (p := ⟨w.heap.size, 0 + j, none⟩) h.bx).trans (h.box j v hv), Nat.lt_of_lt_of_le h.bx hW.size, h.todo.below hW, h.out.below hW, h.d3⟩
theorem MvW.pop {w wr : World} {row : List Value} {tb tof tc : Nat} {z : Int} {todo : List Int} {ob oc : Nat} {out : List Int} (h : MvW w wr row tb tof tc (z :: todo) ob oc out) : MvW w wr row tb (tof + 1) (tc - 1) todo ob oc out :=
  ⟨h.hb, h.box, h.bx, h.todo.tail, h.out, h.d3⟩
theorem MvW.pop0 {w wr : World} {row : List Value} {tb tof tc o' : Nat} {todo : List Int} {ob oc : Nat} {out : List Int} (h : MvW w wr row tb tof tc todo ob oc out) : MvW w wr row tb o' 0 [] ob oc out :=
  ⟨h.hb, h.box, h.bx, h.todo.none, h.out, h.d3⟩
theorem MvW.add {w wr W : World} {row : List Value} {tb tof tc : Nat} {todo : List Int} {ob oc : Nat} {out : List Int} (h : MvW w wr row tb tof tc todo ob oc out) (hW : Below wr.heap.size wr W) {g c : Nat} {out' : List Int} (ho : OutAt wr.heap.size W (.slice (some ⟨g, 0, none⟩) out'.length c) out') : MvW w W row tb tof tc todo g c out' := by
  have hg := (World.ownsRow.lt ho g rfl).1
  have h2 := h.todo.hi
  have h3 := h.bx
  have h' := h.on hW
  exact ⟨h'.hb, h'.box, h'.bx, h'.todo, own_mono ho (by omega), by omega⟩
theorem MvW.push {w wr W : World} {row : List Value} {tb tof tc : Nat} {todo : List Int} {ob oc : Nat} {out : List Int} (h : MvW w wr row tb tof tc todo ob oc out) (hg : wr.grownBy W (some tb)) {b' o' c' : Nat} {todo' : List Int} (ht : TodoAt (w.heap.size + 1) W b' o' c' todo') (hb' : b' = tb ∨ wr.heap.size ≤ b') : MvW w W row b' o' c' todo' ob oc out := by
  have h3 := h.bx
  have h4 := (World.ownsRow.lt h.out ob rfl).2
  have h5 := h.todo.lo
  have hd3 := h.d3
  refine ⟨h.hb.grown hg h.hb.size (fun k hk => by injection hk with hk; omega), fun j v hv => (World.cell?_of_block (w := wr) (hg.block w.heap.size h3 (by simp; omega))).trans (h.box j v hv), Nat.lt_of_lt_of_le h3 hg.size, ht, World.ownsRow.kept h.out hg (.inr (by simp [Value.ownBlock]; omega)), by omega⟩
theorem MvW.start (w : World) (row : Array Value) : MvW w (((w.alloc (.cells row 34)).alloc (.cells #[] 2)).alloc (.cells #[] 2)) row.toList (w.heap.size + 1 + 1) 0 0 [] (w.heap.size + 1) 0 [] := by
  have s1 : (w.alloc (.cells row 34)).heap.size = w.heap.size + 1 := World.size_alloc _ _
  have s2 : ((w.alloc (.cells row 34)).alloc (.cells #[] 2)).heap.size = w.heap.size + 2 := by rw [World.size_alloc, s1]
  have s3 : (((w.alloc (.cells row 34)).alloc (.cells #[] 2)).alloc (.cells #[] 2)).heap.size = w.heap.size + 3 := by rw [World.size_alloc, s2]
  refine ⟨(((Below.refl _ _).alloc (Nat.le_refl _) _).alloc (by omega) _).alloc (by omega) _, ?_, by omega, ⟨by omega, by omega, Nat.le_refl _, fun j hj => by simp at hj, fun j hj => by omega⟩, ?_, by omega⟩
  · have h0 : (((w.alloc (.cells row 34)).alloc (.cells #[] 2)).alloc (.cells #[] 2)).heap[w.heap.size]? = some (.cells row 34) := by
      rw [Below.heap_alloc _ _ _ (by omega), Below.heap_alloc _ _ _ (by omega)]
      exact heap_alloc_new w _
    exact rangeAt_heap h0
  · have h1 := World.ownsRow_made (w.alloc (.cells row 34)) (e := 2) #[] 0 (size := 1) (Nat.le_refl _) (by unfold maxLen; omega) rfl
    rw [s1] at h1
    exact own_kept h1 fun g hg => Below.heap_alloc _ _ _ (by
      simp only [Value.ownBlock, Option.some.injEq] at hg
      omega)
/-- What the search weighs, read. -/
def wtV (objs : List ObP) (ov tv : Value) (w : World) : Nat := wtM (intsW ov w) objs + lenV tv
set_option maxRecDepth 100000 in
set_option maxHeartbeats 4000000 in
theorem specMark_yes (x : HpM) (w : World) (a0 : Option Addr) (c0 c1 c3 : Nat) (a1 a3 : Option Addr) (hob : ∀ k (hk : k < x.os.length), ∃ b0 fa fc, a0 = some ⟨b0, 0, none⟩ ∧ x.os[k].flds.length ≤ fc ∧ ∀ W, Below w.heap.size w W → W.rangeAt b0 (k * 3) [.int .i64 x.os[k].id, .slice fa x.os[k].flds.length fc, .int .i64 x.os[k].col] ∧ SrcAt W 1 (.slice fa x.os[k].flds.length fc) x.os[k].flds.length (intsV x.os[k].flds)) (hro : ∀ W, Below w.heap.size w W → SrcAt W 1 (.slice a1 x.rs.length c1) x.rs.length (intsV x.rs))
    (hsm : ∀ o ∈ x.os, o.small) (hy : ¬ (x.rs.length > 8 ∨ x.os.length > 400)) : Calls Try.prog 10 #[.agg #[.slice a0 x.os.length c0, .slice a1 x.rs.length c1, .bool x.cyc, .slice a3 x.qs.length c3]] w fun e w' => ∃ v L, e = .returned v ∧ IntsAt w.heap.size w'.heap.size w' v L ∧ (AscI L ∧ ∀ z, z ∈ L ↔ LvP x.os x.rs z) ∧ Below w.heap.size w w' := by
  obtain ⟨i9, hi9, hz9, hs9, hb9⟩ := int_info
  have h1 : ¬ (8 : Int) < x.rs.length := by omega
  have h2 : ¬ (400 : Int) < x.os.length := by omega
  have h1n : x.rs.length ≤ 8 := by omega
  have h2n : x.os.length ≤ 400 := by omega
  have hobH : Hid (∀ k (hk : k < x.os.length), ∃ b0 fa fc, a0 = some ⟨b0, 0, none⟩ ∧ x.os[k].flds.length ≤ fc ∧ ∀ W, Below w.heap.size w W → W.rangeAt b0 (k * 3) [.int .i64 x.os[k].id, .slice fa x.os[k].flds.length fc, .int .i64 x.os[k].col] ∧ SrcAt W 1 (.slice fa x.os[k].flds.length fc) x.os[k].flds.length (intsV x.os[k].flds)) := hob
  have hroH : Hid (∀ W, Below w.heap.size w W → SrcAt W 1 (.slice a1 x.rs.length c1) x.rs.length (intsV x.rs)) := hro
  have hsH : Hid (∀ o ∈ x.os, o.small) := hsm
  clear hob hro hsm hy
  go_enter Try.func10, Try.ntmps10
  have hM0 : Hid (MvW w (((w.alloc (.cells #[.slice a0 x.os.length c0, .slice a1 x.rs.length c1, .bool x.cyc, .slice a3 x.qs.length c3] 34)).alloc (.cells #[] 2)).alloc (.cells #[] 2)) [.slice a0 x.os.length c0, .slice a1 x.rs.length c1, .bool x.cyc, .slice a3 x.qs.length c3] (w.heap.size + 1 + 1) 0 0 [] (w.heap.size + 1) 0 []) := MvW.start w _
  go_upto_region 5 with (refine wpList_append_todo rfl (.tmp 19) (.tmp 21) 32 rfl i9 Try.underlying32 hi9 hz9 hs9 hb9 (w.heap.size + 1) (w.heap.size + 1 + 1) 0 0 [] rfl hM0.out.todo _ x.rs rfl (hroH.out _ hM0.out.hb) hM0.out.bx (by simp; omega) ?_; intro tb tof tc WT hT1 hg1 hn1)
  have hMv0 : Hid (MvW w WT [.slice a0 x.os.length c0, .slice a1 x.rs.length c1, .bool x.cyc, .slice a3 x.qs.length c3] tb tof tc x.rs (w.heap.size + 1) 0 []) := hM0.out.push hg1 (by simpa using hT1) hn1
  have hMr0 : Hid (MrS x.os x.rs x.rs []) := MrS.start _ _
  have hbd0 : Hid (wtM [] x.os + x.rs.length ≤ 1000000000) := by have := wtM_le [] x.os hsH.out; show _ ≤ _; omega
  clear hT1 hg1 hn1 hM0 hroH
  generalize hst : x.rs = st at hMv0 hMr0 hbd0 ⊢
  have hstH : Hid (x.rs = st) := hst
  clear hst
  go_loopw [3, 4] (fun ov tv wr => ∃ tb tof tc todo ob oc out, ov = .slice (some ⟨ob, 0, none⟩) (List.length out) oc ∧ tv = .slice (some ⟨tb, tof, none⟩) (List.length todo) tc ∧ Hid (MvW w wr [.slice a0 x.os.length c0, .slice a1 st.length c1, .bool x.cyc, .slice a3 x.qs.length c3] tb tof tc todo ob oc out) ∧ Hid (MrS x.os st todo out) ∧ Hid (wtM out x.os + todo.length ≤ 1000000000)) (fun ov tv wr => wtV x.os ov tv wr)
  case atStart => exact ⟨tb, tof, tc, st, _, 0, [], rfl, rfl, hMv0, hMr0, hbd0⟩
  case round =>
    obtain ⟨tb, tof, tc, todo, ob, oc, out, rfl, rfl, hMv, hMr, hbd⟩ := hrel
    clear hMv0 hMr0 hbd0
    cases todo with
    | nil =>
      go_wp2
      go_ret
      exact ⟨_, out, rfl, (out_ints hMv.out.out).mono (by omega) (Nat.le_refl _), ⟨hMr.out.asc, by first | exact hMr.out.fin | (rw [hstH.out]; exact hMr.out.fin)⟩, hMv.out.hb⟩
    | cons z todo =>
      have kz : wr.cell? ⟨tb, tof, none⟩ = some (.int .i64 z) := hMv.out.todo.cells 0 (by simp)
      have htc : todo.length + 1 ≤ tc := hMv.out.todo.cap
      have htc' : (todo.length : Int) + 1 ≤ tc := by omega
      have htc1 : (1 : Int) ≤ tc := by omega
      have htc2 : (1 : Int) ≤ (todo.length : Int) + 1 := by omega
      go_upto_region 8 with fail
      obtain ⟨to2, ht2, hMv2⟩ : ∃ to2, Hid ((if tc = 1 then some (⟨tb, tof, none⟩ : Addr) else some ⟨tb, tof + 1, none⟩) = some ⟨tb, to2, none⟩) ∧ Hid (MvW w wr [.slice a0 x.os.length c0, .slice a1 st.length c1, .bool x.cyc, .slice a3 x.qs.length c3] tb to2 (tc - 1) todo ob oc out) := by
        by_cases h1 : tc = 1
        · have h2 : todo = [] := List.eq_nil_of_length_eq_zero (by omega)
          subst h2
          subst h1
          exact ⟨tof, if_pos rfl, hMv.out.pop0⟩
        · exact ⟨tof + 1, if_neg h1, hMv.out.pop⟩
      simp only [ht2.out]
      have hold : Hid (wtV x.os (.slice (some ⟨ob, 0, none⟩) out.length oc) (.slice (some ⟨tb, tof, none⟩) (todo.length + 1) tc) wr = wtM out x.os + (todo.length + 1)) := by show _ = _; unfold wtV; rw [intsW_eq hMv.out.out]; rfl
      have hol : Hid (out.length ≤ 400) := by have := hMr.out.outlen; show _ ≤ _; omega
      have hbd2 : Hid (wtM out x.os + todo.length ≤ 1000000000) := by have := hbd.out; simp only [List.length_cons] at this; show _ ≤ _; omega
      clear kz htc htc' htc1 htc2 hbd ht2
      generalize tc - 1 = tc2 at *
      have hhas : Hid (Calls Try.prog 24 #[.slice (some ⟨ob, 0, none⟩) out.length oc, .int .i64 z] wr fun e w' => e = .returned (.bool (decide (z ∈ out))) ∧ w' = wr) := has_calls _ _ z wr _ hMv2.out.out (by have := hol.out; omega)
      by_cases hz0 : z = 0
      · have hMr2 : Hid (MrS x.os st todo out) := hMr.out.skip (.inl hz0)
        have hlt : Hid (wtV x.os (.slice (some ⟨ob, 0, none⟩) out.length oc) (.slice (some ⟨tb, to2, none⟩) todo.length tc2) wr < wtV x.os (.slice (some ⟨ob, 0, none⟩) out.length oc) (.slice (some ⟨tb, tof, none⟩) (todo.length + 1) tc) wr) := by show _ < _; rw [hold.out]; unfold wtV; rw [intsW_eq hMv2.out.out]; exact Nat.lt_succ_self _
        subst hz0
        go_wp2
        go_roundw
        case rel => exact ⟨tb, to2, tc2, todo, ob, oc, out, rfl, rfl, hMv2, hMr2, hbd2⟩
        case measure => exact hlt.out
      · by_cases hin : z ∈ out
        · have hMr2 : Hid (MrS x.os st todo out) := hMr.out.skip (.inr hin)
          have hlt : Hid (wtV x.os (.slice (some ⟨ob, 0, none⟩) out.length oc) (.slice (some ⟨tb, to2, none⟩) todo.length tc2) wr < wtV x.os (.slice (some ⟨ob, 0, none⟩) out.length oc) (.slice (some ⟨tb, tof, none⟩) (todo.length + 1) tc) wr) := by show _ < _; rw [hold.out]; unfold wtV; rw [intsW_eq hMv2.out.out]; exact Nat.lt_succ_self _
          have hhas1 : Hid (Calls Try.prog 24 #[.slice (some ⟨ob, 0, none⟩) out.length oc, .int .i64 z] wr fun e w' => e = .returned (.bool true) ∧ w' = wr) := by have := hhas.out; rw [decide_eq_true hin] at this; exact this
          clear hhas hin
          go_wp2_with (go_at_call 24; refine (show Calls _ _ _ _ _ from hhas1.out).mono ?_; rintro e w' ⟨rfl, hw⟩; subst hw)
          go_roundw
          case rel => exact ⟨tb, to2, tc2, todo, ob, oc, out, rfl, rfl, hMv2, hMr2, hbd2⟩
          case measure => exact hlt.out
        · have hhas1 : Hid (Calls Try.prog 24 #[.slice (some ⟨ob, 0, none⟩) out.length oc, .int .i64 z] wr fun e w' => e = .returned (.bool false) ∧ w' = wr) := by have := hhas.out; rw [decide_eq_false hin] at this; exact this
          have hMr2 : Hid (MrS x.os st (todo ++ leadM z x.os) (outM z out x.os)) := hMr.out.take hz0 hin
          have hnin : Hid (z ∉ out) := hin
          have hwt : Hid (wtM (outM z out x.os) x.os + (todo ++ leadM z x.os).length = wtM out x.os + todo.length) := by have := wtM_take out z hin x.os; show _ = _; rw [List.length_append]; omega
          have hled : Hid ((leadM z x.os).length ≤ 1000000000 ∧ todo.length ≤ 1000000000) := by have := wtM_take out z hin x.os; have := hbd2.out; exact ⟨by omega, by omega⟩
          clear hhas hin
          go_wp2_with (go_at_call 24; refine (show Calls _ _ _ _ _ from hhas1.out).mono ?_; rintro e W ⟨rfl, hw⟩; subst hw)
          clear hz0
          generalize (z == 0) = qb
          go_loopw [3, 4, 6] (fun ov tv iv wr => ∃ m tb tof tc ob oc td ou, m ≤ x.os.length ∧ iv = .int .i64 (m : Nat) ∧ ov = .slice (some ⟨ob, 0, none⟩) (List.length ou) oc ∧ tv = .slice (some ⟨tb, tof, none⟩) (List.length td) tc ∧ Hid (td = todo ++ leadM z (x.os.take m)) ∧ Hid (ou = outM z out (x.os.take m)) ∧ Hid (MvW w wr [.slice a0 x.os.length c0, .slice a1 st.length c1, .bool x.cyc, .slice a3 x.qs.length c3] tb tof tc td ob oc ou)) (fun _ _ iv _ => x.os.length - (intOf iv).toNat)
          case atStart => exact ⟨0, tb, to2, tc2, ob, oc, todo, out, Nat.zero_le _, rfl, rfl, rfl, by show _ = _; rw [leadM_zero, List.append_nil], by show _ = _; rw [outM_zero], hMv2⟩
          case round =>
            clear hMv hMr hMv2 hhas1
            obtain ⟨m, tb2, to2, tc2, ob2, oc2, td, ou, hm, rfl, rfl, rfl, htd, hou, hMv⟩ := hrel
            have kW0 : wr.cell? ⟨w.heap.size, 0, none⟩ = some (.slice a0 x.os.length c0) := hMv.out.box 0 _ rfl
            have hm0 : (0 : Int) ≤ m := by omega
            by_cases hlt : m < x.os.length
            · have hlt' : (m : Int) < (x.os.length : Int) := by omega
              obtain ⟨b0, fa, fc, rfl, hfc0, hWk⟩ := hobH.out m hlt
              have hG := (hWk wr hMv.out.hb).1
              have e0 : wr.cell? ⟨b0, m * 3, none⟩ = some (.int .i64 x.os[m].id) := hG 0 _ rfl
              have e1 : wr.cell? ⟨b0, m * 3 + 1, none⟩ = some (.slice fa x.os[m].flds.length fc) := hG 1 _ rfl
              by_cases he : ¬ (x.os[m].id = z)
              · have htd2 : Hid (td = todo ++ leadM z (x.os.take (m + 1))) := by show _ = _; rw [leadM_skip hlt he]; exact htd.out
                have hou2 : Hid (ou = outM z out (x.os.take (m + 1))) := by show _ = _; rw [outM_skip hlt he]; exact hou.out
                clear hWk hfc0
                generalize x.os[m] = o at *
                clear htd hou hG
                go_wp2
                go_roundw
                case rel => exact ⟨m + 1, tb2, to2, tc2, ob2, oc2, td, ou, by omega, by go_num, rfl, rfl, htd2, hou2, hMv⟩
                case measure => simp [intOf]; omega
              · have he : x.os[m].id = z := Decidable.not_not.1 he
                have htd2 : Hid (td ++ x.os[m].flds = todo ++ leadM z (x.os.take (m + 1))) := by show _ = _; rw [leadM_take hlt, if_pos he, htd.out, List.append_assoc]
                have hou2 : Hid (addI out z = outM z out (x.os.take (m + 1))) := by show _ = _; rw [outM_hit hlt he]
                have hsrc : Hid (∀ W, Below wr.heap.size wr W → SrcAt W 1 (.slice fa x.os[m].flds.length fc) x.os[m].flds.length (intsV x.os[m].flds)) := fun W hW => (hWk W (below_on2 hMv.out.hb hW)).2
                have hln : Hid (td.length + x.os[m].flds.length ≤ 1000000000000) := by
                  have h1 := congrArg List.length htd2.out
                  rw [List.length_append, List.length_append] at h1
                  have h2 := leadM_take_le z x.os (m + 1)
                  have h3 := hled.out
                  show _ ≤ _
                  omega
                have hoo : Hid (ou = out ∨ ou = addI out z) := by
                  have := hou.out
                  unfold outM at this
                  split at this
                  · exact .inr this
                  · exact .inl this
                have hfc : x.os[m].flds.length ≤ fc := hfc0
                have hfc' : (x.os[m].flds.length : Int) ≤ fc := by omega
                rw [he] at e0
                clear hWk hfc0
                generalize x.os[m] = o at *
                clear htd hou hG he hfc
                go_upto_region 14 with (refine wpList_append_todo rfl (.tmp 53) (.tmp 59) 32 rfl i9 Try.underlying32 hi9 hz9 hs9 hb9 (w.heap.size + 1) tb2 to2 tc2 td rfl hMv.out.todo _ o.flds rfl (hsrc.out _ (Below.refl _ _)) hMv.out.bx hln.out ?_; intro b9 o9 c9 W9 hT9 hg9 hn9)
                have hMv9 : Hid (MvW w W9 [.slice (some ⟨b0, 0, none⟩) x.os.length c0, .slice a1 st.length c1, .bool x.cyc, .slice a3 x.qs.length c3] b9 o9 c9 (td ++ o.flds) ob2 oc2 ou) := hMv.out.push hg9 hT9 hn9
                clear hT9 hg9 hn9 hMv hsrc e0 e1 kW0
                rcases hoo.out with hE | hE
                · subst hE
                  have hh : Hid (Calls Try.prog 24 #[.slice (some ⟨ob2, 0, none⟩) ou.length oc2, .int .i64 z] W9 fun e w' => e = .returned (.bool false) ∧ w' = W9) := by have := has_calls _ _ z W9 _ hMv9.out.out (by have := hol.out; omega); rw [decide_eq_false hnin.out] at this; exact this
                  have hAd : Hid (Calls Try.prog 25 #[.slice (some ⟨ob2, 0, none⟩) ou.length oc2, .int .i64 z] W9 fun e w' => (∃ g c, e = .returned (.slice (some ⟨g, 0, none⟩) (ou.length + 1) c) ∧ OutAt W9.heap.size w' (.slice (some ⟨g, 0, none⟩) (ou.length + 1) c) (addI ou z)) ∧ Below W9.heap.size W9 w') := add_some ob2 oc2 ou z W9 _ hMv9.out.out (by have := hol.out; omega)
                  go_wp2_with (first
                    | (go_at_call 24; refine (show Calls _ _ _ _ _ from hh.out).mono ?_; rintro e w' ⟨rfl, hw⟩; subst hw)
                    | (go_at_call 25; refine (show Calls _ _ _ _ _ from hAd.out).mono ?_; rintro e WA ⟨⟨ga, ca, rfl, hoA⟩, hbA⟩))
                  have hMvA : Hid (MvW w WA [.slice (some ⟨b0, 0, none⟩) x.os.length c0, .slice a1 st.length c1, .bool x.cyc, .slice a3 x.qs.length c3] b9 o9 c9 (td ++ o.flds) ga ca (addI ou z)) := hMv9.out.add hbA (by rw [addI_length]; exact hoA)
                  clear hoA hbA hh hAd hMv9
                  go_roundw
                  case rel => exact ⟨m + 1, b9, o9, c9, ga, ca, td ++ o.flds, addI ou z, by omega, by go_num, by rw [addI_length], by rw [List.length_append], htd2, hou2, hMvA⟩
                  case measure => simp [intOf]; omega
                · have hh : Hid (Calls Try.prog 24 #[.slice (some ⟨ob2, 0, none⟩) ou.length oc2, .int .i64 z] W9 fun e w' => e = .returned (.bool true) ∧ w' = W9) := by have := has_calls _ _ z W9 _ hMv9.out.out (by have := hol.out; rw [hE, addI_length]; omega); rw [decide_eq_true (by rw [hE]; exact mem_addI.2 (.inl rfl))] at this; exact this
                  have hou3 : Hid (ou = outM z out (x.os.take (m + 1))) := hE.trans hou2.out
                  clear hE
                  go_wp2_with (go_at_call 24; refine (show Calls _ _ _ _ _ from hh.out).mono ?_; rintro e w' ⟨rfl, hw⟩; subst hw)
                  go_roundw
                  case rel => exact ⟨m + 1, b9, o9, c9, ob2, oc2, td ++ o.flds, ou, by omega, by go_num, rfl, by rw [List.length_append], htd2, hou3, hMv9⟩
                  case measure => simp [intOf]; omega
            · have hge : ¬ ((m : Int) < (x.os.length : Int)) := by omega
              have hmE : m = x.os.length := by omega
              have htdE : td = todo ++ leadM z x.os := by have := htd.out; rwa [hmE, List.take_length] at this
              have houE : ou = outM z out x.os := by have := hou.out; rwa [hmE, List.take_length] at this
              have hnew : Hid (wtV x.os (.slice (some ⟨ob2, 0, none⟩) ou.length oc2) (.slice (some ⟨tb2, to2, none⟩) td.length tc2) wr < wtV x.os (.slice (some ⟨ob, 0, none⟩) out.length oc) (.slice (some ⟨tb, tof, none⟩) (todo.length + 1) tc) W) := by
                have h1 := hwt.out
                rw [← htdE, ← houE] at h1
                show _ < _
                rw [hold.out]
                unfold wtV
                rw [intsW_eq hMv.out.out]
                show wtM ou x.os + td.length < _
                omega
              have hbd3 : Hid (wtM ou x.os + td.length ≤ 1000000000) := by
                have h1 := hwt.out
                rw [← htdE, ← houE] at h1
                have h2 := hbd2.out
                show _ ≤ _
                omega
              have hMr3 : Hid (MrS x.os st td ou) := by have := hMr2.out; rw [← htdE, ← houE] at this; exact this
              clear htdE houE hwt hMr2 htd hou hmE hold
              go_wp2
              go_roundw
              case rel => exact ⟨tb2, to2, tc2, td, ob2, oc2, ou, rfl, rfl, hMv, hMr3, hbd3⟩
              case measure => exact hnew.out
end Go.Proofs.Ytchcdlelaklnnaa
