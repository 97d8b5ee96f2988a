import Derived.Test.YtjjccimeikkogaaGreatDoorLkD
import Derived.Test.YtjjccimeikkogaaGreatDoorLkT
set_option maxRecDepth 1000000
set_option maxHeartbeats 8000000
namespace Go.Proofs.YtjjccimeikkogaaGreatDoor
set_option linter.unusedVariables false
open Go.Maps Go.WideMaps
open Go.ChangeShapes Go.WideShapes Go.ChangeAt Go.RowKit Go.Shelf
def fieldIn (fs : List FieldL) (n : List UInt8) : Option FieldL := fs.find? fun f => decide (f.name.toList = n)
def fieldUp (all : List ClassL) (n : List UInt8) : List Nat → Option (ByteArray × FieldL)
 | [] => none
 | k :: r => match (all[k]?).bind fun c => (fieldIn c.fields n).map fun f => (c.name, f) with
  | some x => some x
  | none => fieldUp all n r
def fldV (f : FieldL) : List Value := [.string f.name, .string f.ty, .int .i64 f.flags]
def zeroF : List Value := [.string ⟨#[]⟩, .string ⟨#[]⟩, .int .i64 0]
def fieldV : Option (ByteArray × FieldL) → Value
 | some (c, f) => .tuple #[.string c, .agg (fldV f).toArray]
 | none => .tuple #[.string ⟨#[]⟩, .agg zeroF.toArray]
theorem resTC {fn : Func} {p q : Tmp} {ty : TypeId} (h : fn.results = #[.tmp q, .cell p ty]) (tmps : Array Value) (w : World) (g : Nat) (cs : List Value) (d : TypeDesc)
  (v2 : Value) (hp : tmps.getD p undef = .pointer (some ⟨g, 0, none⟩)) (hq : tmps.getD q undef = v2) (hc : w.rangeAt g 0 cs) (hu : Tryz.prog.underlying ty = some d) (hd : d.isRow = true) (hi : (Tryz.prog.info? ty).map (·.size) = some cs.length) :
  (results fn tmps).run Tryz.prog w = .ok (.tuple #[v2, .agg cs.toArray]) w := by
 have hq' : tmps[q]?.getD undef = v2 := by simpa using hq
 have hp' : tmps[p]?.getD undef = .pointer (some ⟨g, 0, none⟩) := by simpa using hp
 simp [results, h, hp', hq', asAddr, run_loadVar_mid w g 0 ty cs d hc hu hd hi]
theorem fiD {fs : List FieldL} {j : Nat} (h : j < fs.length) (n : List UInt8) : fieldIn (fs.drop j) n = if fs[j].name.toList = n then some fs[j] else fieldIn (fs.drop (j + 1)) n := by
 unfold fieldIn
 rw [List.drop_eq_getElem_cons h, List.find?_cons]
 by_cases e : fs[j].name.toList = n
 ·rw [if_pos e, decide_eq_true e]
 ·rw [if_neg e, decide_eq_false e]
theorem fuD {all : List ClassL} {R : List Nat} {m : Nat} (h : m < R.length) (hk : R[m] < all.length) (n : List UInt8) : fieldUp all n (R.drop m) = match fieldIn all[R[m]].fields n with
  | some f => some (all[R[m]].name, f)
  | none => fieldUp all n (R.drop (m + 1)) := by
 rw [List.drop_eq_getElem_cons h, fieldUp, List.getElem?_eq_getElem hk]
 simp only [Option.bind_some]
 cases fieldIn all[R[m]].fields n <;> rfl
theorem fuE (all : List ClassL) (n : List UInt8) {R : List Nat} {m : Nat} (h : R.length ≤ m) : fieldUp all n (R.drop m) = none := by
 rw [List.drop_eq_nil_of_le h]; rfl
theorem field6_calls (a : Option Addr) (n c : Nat) (s nm : ByteArray) (all : List ClassL) (w : World) (B : Nat) (hB : B ≤ w.heap.size) (ht : AllAt B w (.slice a n c) all) (hn : n ≤ 1000) (hN : Named all) (hif : ∀ x ∈ all, x.ifs.length ≤ 1048576) (hfl : ∀ x ∈ all, x.fields.length ≤ 1048576) :
  Calls Tryz.prog 38 #[.slice a n c, .string s, .string nm] w fun e w' => e = .returned (fieldV (fieldUp all nm.toList (abvL all s.toList))) ∧ Below w.heap.size w w' := by
 have hx : Hid (all.length = n) := ht.len
 have htH : Hid (∀ W, Below w.heap.size w W → AllAt B W (.slice a n c) all) := fun W hW => ht.below' hB hW
 have hBH : Hid (B ≤ w.heap.size) := hB
 have hNH : Hid (Named all) := hN
 have hflH : Hid (∀ x ∈ all, x.fields.length ≤ 1048576) := hfl
 have hC := abvC_of hB ht hn hN hif
 have hRk : Hid (RowK all (abvL all s.toList)) := abvL_row all s.toList
 have hRl : Hid ((abvL all s.toList).length ≤ 1000) := by have := (abvL_row all s.toList).len; have := hx.out; show _ ≤ _; omega
 have hCa : Hid (∀ W, Below w.heap.size w W → Calls Tryz.prog 24 #[.slice a n c, .string s] W fun e w' => ∃ va vc, e = .returned (.slice va (abvL all s.toList).length vc) ∧ StrO W.heap.size w' (.slice va (abvL all s.toList).length vc) ((abvL all s.toList).map (nameK all)) ∧ Below W.heap.size W w') := hC.abv s
 have hA0 : Hid (fieldUp all nm.toList ((abvL all s.toList).drop 0) = fieldUp all nm.toList (abvL all s.toList)) := by show _ = _; rw [List.drop_zero]
 generalize fieldUp all nm.toList (abvL all s.toList) = A at *
 generalize abvL all s.toList = R at *
 clear ht hN hif hB hC hfl
 go_enter Tryz.func38, Tryz.ntmps38
 go_wp2_with fail
 refine (hCa.out _ (below_1 _ _)).mono ?_
 rintro e w1 ⟨va, vc, rfl, ho, hb⟩
 have hq : Hid (w1.heap[w.heap.size]? = some (.cells #[.string ⟨#[]⟩, .string ⟨#[]⟩, .int .i64 0] 36 (0, 0))) := (hb.block w.heap.size (by simp)).trans (heap_alloc_new w _)
 have hb1 : Hid (Below w.heap.size w w1) := below_on2 (below_1 _ _) hb
 have hoH : Hid (StrO w.heap.size w1 (.slice va R.length vc) (R.map (nameK all))) := own_mono ho (by simp)
 clear ho hb hCa
 go_wp2
 go_loopw [9] (fun i wr => ∃ m : Nat, i = .int .i64 m ∧ m ≤ R.length ∧ Hid (Below w1.heap.size w1 wr ∧ fieldUp all nm.toList (R.drop m) = A)) (fun i _ => R.length - (intOf i).toNat)
 case atStart => exact ⟨0, rfl, Nat.zero_le _, Below.refl _ _, hA0.out⟩
 case round =>
  rename World => wo
  obtain ⟨m, rfl, hm, hS⟩ := hrel
  have hbo : Below w.heap.size w wo := below_on2 hb1.out hS.out.1
  have hRle : R.length ≤ 1000 := hRl.out
  by_cases hlt : m < R.length
  ·have hltI : (m : Int) < (R.length : Int) := by omega
   have ho := hoH.out.below hS.out.1
   obtain ⟨g, gc, hg⟩ := own_some ho (by simp; omega)
   injection hg with hg1 hg2 hg3
   subst hg1 hg3
   clear hg2
   have hcell := StrO.cell ho (j := m) (by simpa using hlt)
   simp only [List.getElem_map] at hcell
   obtain ⟨k, hk⟩ : ∃ k, R[m] = k := ⟨_, rfl⟩
   have hkl : k < all.length := hRk.out.lt k (hk ▸ List.getElem_mem hlt)
   have hstep : Hid (A = match fieldIn all[k].fields nm.toList with
    | some f => some (all[k].name, f)
    | none => fieldUp all nm.toList (R.drop (m + 1))) := by
    have := fuD hlt (by rw [hk]; exact hkl) nm.toList
    rw [hS.out.2] at this
    subst hk
    exact this
   rw [hk] at hcell
   obtain ⟨b, off, p, q, sv, t, rfl, hbB, hc, hp, hq', hs5, ht6⟩ := (htH.out wo hbo).class k hkl
   obtain ⟨pa, pc, rfl⟩ := hp.form
   obtain ⟨qa, qc, rfl⟩ := hq'.form
   obtain ⟨sa, sc, rfl⟩ := hs5.form
   obtain ⟨ta, tc, rfl⟩ := ht6.form
   have hs5H : Hid (LstK FldK 3 B wo (.slice sa all[k].fields.length sc) all[k].fields) := hs5
   have hat : Hid (atZ all (nameK all k).toList = (k : Int)) := by show _ = _; unfold atZ; rw [nameK_get hkl, atL_self hNH.out hkl]
   have hkI : (k : Int) < (n : Int) := by have := hx.out; omega
   have hfk : all[k].fields.length ≤ 1048576 := hflH.out _ (List.getElem_mem hkl)
   have hatC : Hid (Calls Tryz.prog 43 #[.slice (some ⟨b, off, none⟩) n c, .string (nameK all k)] wo fun e w' => e = .returned (.int .i64 (atZ all (nameK all k).toList)) ∧ w' = wo) := at6_calls _ n c (nameK all k) all wo hx.out (by omega) (htH.out wo hbo).names
   obtain ⟨e0, e1, e2, e3, e4, e5, e6⟩ := hc
   have hBo : Hid (B ≤ wo.heap.size) := by have := hBH.out; have := hbo.size; show _ ≤ _; omega
   generalize all[k] = X at *
   clear hp hq' hs5 ht6 hk hkl hbB ho hbo
   generalize X.ifs.length = np at *
   generalize X.perms.length = nq at *
   generalize X.meths.length = nt at *
   generalize nameK all k = nk at *
   go_wp2_with fail
   refine hatC.out.mono ?_
   rintro e w2 ⟨rfl, rfl⟩
   rw [hat.out]
   clear hatC hat
   go_wp2
   have hb4 : Below w2.heap.size w2 (w2.alloc (.cells #[.string X.name, .string X.super, .slice pa np pc, .int .i64 X.flags, .slice qa nq qc, .slice sa X.fields.length sc, .slice ta nt tc] 49)) := below_1 _ _
   have hbx : (w2.alloc (.cells #[.string X.name, .string X.super, .slice pa np pc, .int .i64 X.flags, .slice qa nq qc, .slice sa X.fields.length sc, .slice ta nt tc] 49)).heap[w2.heap.size]? = some (.cells #[.string X.name, .string X.super, .slice pa np pc, .int .i64 X.flags, .slice qa nq qc, .slice sa X.fields.length sc, .slice ta nt tc] 49 (0, 0)) := heap_alloc_new w2 _
   generalize w2.alloc (.cells #[.string X.name, .string X.super, .slice pa np pc, .int .i64 X.flags, .slice qa nq qc, .slice sa X.fields.length sc, .slice ta nt tc] 49) = W4 at *
   obtain ⟨bx, hbxe⟩ : ∃ bx, w2.heap.size = bx := ⟨_, rfl⟩
   have hbm : Hid (Below w1.heap.size w1 W4) := hS.out.1.trans (hb4.mono hS.out.1.size)
   have hl5 : Hid (LstK FldK 3 B W4 (.slice sa X.fields.length sc) X.fields) := LstK.kept FldK.kept hs5H.out (Nat.le_refl _) (Same.below (hb4.mono hBo.out))
   rw [hbxe] at hbx ⊢
   have x0 : W4.cell? ⟨bx, 0, none⟩ = some (.string X.name) := by simp [World.cell?, hbx]
   have x5 : W4.cell? ⟨bx, 5, none⟩ = some (.slice sa X.fields.length sc) := by simp [World.cell?, hbx]
   clear hb4 hbx e0 e1 e2 e3 e4 e5 e6 hcell hs5H hBo hbxe
   go_loopw [11] (fun i wi => ∃ j : Nat, i = .int .i64 j ∧ j ≤ X.fields.length ∧ Hid (fieldIn (X.fields.drop j) nm.toList = fieldIn X.fields nm.toList) ∧ wi = W4) (fun i _ => X.fields.length - (intOf i).toNat)
   case atStart => exact ⟨0, rfl, Nat.zero_le _, by show _ = _; rw [List.drop_zero], rfl⟩
   case round =>
    rename World => wi
    obtain ⟨j, rfl, hj, hF, hwi⟩ := hrel
    have hwi := hwi.symm
    subst hwi
    by_cases hjl : j < X.fields.length
    ·have hjI : (j : Int) < (X.fields.length : Int) := by omega
     obtain ⟨fb, fo, row, rfl, hfB, hrl, hrg, hrow⟩ := hl5.out.at j hjl
     have hfs := fiD hjl nm.toList
     rw [hF.out] at hfs
     obtain rfl : row = [.string X.fields[j].name, .string X.fields[j].ty, .int .i64 X.fields[j].flags] := hrow
     generalize X.fields[j] = f at *
     have f0 := hrg 0 _ rfl
     have f1 := hrg 1 _ rfl
     have f2 := hrg 2 _ rfl
     rw [Nat.add_zero] at f0
     clear hrl hrg hfB
     cases he : (f.name.toList == nm.toList) with
     | true =>
      have hAe : Hid (A = some (X.name, f)) := by
       show _ = _
       rw [hstep.out, hfs, if_pos (by simpa using he)]
      clear hfs
      have hqj : W4.heap[w.heap.size]? = some (.cells #[.string ⟨#[]⟩, .string ⟨#[]⟩, .int .i64 0] 36 (0, 0)) := (hbm.out.block _ (lt_of hq.out)).trans hq.out
      go_wp2_with fail
      go_still_tail 8, (by kernel_rfl)
      refine wpList_store_mid rfl 36 _ _ rfl w.heap.size 0 #[.string f.name, .string f.ty, .int .i64 f.flags] rfl rfl (show World.there _ w.heap.size 0 3 from there_heap hqj) (by kernel_rfl) (by simp [Value.oneCell']) ?_
      go_wp2
      try simp only [Exit.inBlock, Exit.then]
      refine bodyPost_ret (v := .tuple #[.string X.name, .agg #[.string f.name, .string f.ty, .int .i64 f.flags]]) (resTC rfl _ _ w.heap.size [.string f.name, .string f.ty, .int .i64 f.flags] _ (.string X.name) rfl rfl (World.rangeAt_setCells_same _ _ _ _ (show World.there _ w.heap.size 0 3 from there_heap hqj)) Tryz.underlying36 rfl (by kernel_rfl)) rfl ⟨by rw [hAe.out]; rfl, ?_⟩
      exact below_setCells _ (Nat.le_refl _) _ _ _ (below_on2 hb1.out hbm.out).drew
     | false =>
      have hFn : Hid (fieldIn (X.fields.drop (j + 1)) nm.toList = fieldIn X.fields nm.toList) := by
       show _ = _
       rw [hfs, if_neg (by simpa using he)]
      clear hfs
      go_wp2
      go_roundw
      case rel => exact ⟨j + 1, by go_num, by omega, hFn.out, trivial⟩
      case measure => simp [intOf]; omega
    ·have hjn : ¬ ((j : Int) < (X.fields.length : Int)) := by omega
     have hAe : Hid (fieldUp all nm.toList (R.drop (m + 1)) = A) := by
      show _ = _
      have := hF.out
      rw [List.drop_eq_nil_of_le (by omega)] at this
      rw [hstep.out, ← this]
      rfl
     go_wp2
     go_roundw
     case rel => exact ⟨m + 1, by go_num, by omega, hbm.out, hAe.out⟩
     case measure => simp [intOf]; omega
  ·have hge : ¬ ((m : Int) < (R.length : Int)) := by omega
   have hAe : A = none := by rw [← hS.out.2]; exact fuE _ _ (by omega)
   subst hAe
   have hqo : wo.heap[w.heap.size]? = some (.cells #[.string ⟨#[]⟩, .string ⟨#[]⟩, .int .i64 0] 36 (0, 0)) := (hS.out.1.block _ (lt_of hq.out)).trans hq.out
   have y0 : wo.cell? ⟨w.heap.size, 0, none⟩ = some (.string ⟨#[]⟩) := by simp [World.cell?, hqo]
   have y1 : wo.cell? ⟨w.heap.size, 1, none⟩ = some (.string ⟨#[]⟩) := by simp [World.cell?, hqo]
   have y2 : wo.cell? ⟨w.heap.size, 2, none⟩ = some (.int .i64 0) := by simp [World.cell?, hqo]
   have z0 : wo.frozen? ⟨w.heap.size, 0, none⟩ = false := by simp [World.frozen?, hqo]
   have z1 : wo.frozen? ⟨w.heap.size, 1, none⟩ = false := by simp [World.frozen?, hqo]
   have z2 : wo.frozen? ⟨w.heap.size, 2, none⟩ = false := by simp [World.frozen?, hqo]
   go_wp2
   try simp only [Exit.inBlock, Exit.then]
   refine bodyPost_ret (v := .tuple #[.string ⟨#[]⟩, .agg zeroF.toArray]) (resTC rfl _ _ w.heap.size zeroF _ (.string ⟨#[]⟩) rfl rfl (World.rangeAt_setCells_same wo w.heap.size 0 zeroF (show World.there _ w.heap.size 0 3 from there_heap hqo)) Tryz.underlying36 rfl (by kernel_rfl)) rfl ⟨rfl, ?_⟩
   exact below_setCells (w := wo) _ (Nat.le_refl _) zeroF 0 hbo
end Go.Proofs.YtjjccimeikkogaaGreatDoor
