import Derived.Test.YtjjccimeikkogaaGreatDoorLkA
import Derived.Test.YtjjccimeikkogaaGreatDoorClsG0
namespace Go.Proofs.YtjjccimeikkogaaGreatDoor
set_option linter.unusedVariables false
open Go.ChangeShapes Go.WideShapes Go.ChangeAt Go.RowKit
theorem str_info : ∃ i0 : TypeInfo, Tryz.prog.info? 9 = some i0 ∧ i0.zero = some (.string ⟨#[]⟩) ∧ i0.size = 1 ∧ i0.bytes = 16 := info_parts (show (Tryz.prog.info? 9).map (fun i => (i.zero, i.size, i.bytes)) = some (some (.string ⟨#[]⟩), 1, 16) by kernel_rfl)
theorem own_newS (w : World) (B : Nat) (hB : B ≤ w.heap.size) (xs : List ByteArray) : StrO B (w.alloc (.cells (strsV xs).toArray 9)) (.slice (some ⟨w.heap.size, 0, none⟩) xs.length xs.length) xs ∨ maxLen < xs.length := by
 by_cases h : maxLen < xs.length
 ·exact .inr h
 ·refine .inl ⟨by simp [strsV], .inr ⟨w.heap.size, xs.length, (strsV xs).toArray, rfl, hB, heap_alloc_new w _, Nat.le_refl _, by omega, by simp [strsV], ?_⟩⟩
  simp only [strsV, Nat.mul_one]
  exact List.take_of_length_le (by simp)
theorem grown_below' {w w' : World} {r : Option Nat} {B : Nat} (h : w.grownBy w' r) (hr : ∀ k, r = some k → B ≤ k) (hB : B ≤ w.heap.size) : Below B w w' := ⟨h.os, h.tape, h.output, h.size, fun k hk => h.block k (by omega) (fun e => by have := hr k e.symm; omega)⟩
theorem nameK_ext (all : List ClassL) (row : List Nat) (k : Nat) : (row ++ [k]).map (nameK all) = row.map (nameK all) ++ [nameK all k] := by simp
theorem bytes_ext {x y : ByteArray} (h : x.toList = y.toList) : x = y := by
 rw [ByteArray.toList_eq, ByteArray.toList_eq] at h
 cases x; cases y
 simp only at h
 rw [Array.toList_inj.1 h]
theorem src1 (w : World) (v : Value) (t : TypeId) (p : Nat) (hp : p = w.heap.size) : SrcAt (w.alloc (.cells #[v] t)) 1 (.slice (some ⟨p, 0, none⟩) 1 1) 1 [v] := .inr ⟨_, 1, rfl, rfl, fun j u hu => by
 subst hp
 match j, hu with
 | 0, hu =>
  injection hu with hu
  subst hu
  show (w.alloc (.cells #[v] t)).cell? ⟨w.heap.size, 0 + 0, none⟩ = some v
  simp only [World.cell?, heap_alloc_new]
  rfl⟩
structure AbW (w wr : World) (all : List ClassL) (R : List Nat) (v : Value) (at' : Nat) (row : List Nat) : Prop where
 hb : Below w.heap.size w wr
 out : StrO w.heap.size wr v (row.map (nameK all))
 st : Abv all R at' row
theorem AbW.len {w wr : World} {all : List ClassL} {R : List Nat} {v : Value} {at' : Nat} {row : List Nat} (h : AbW w wr all R v at' row) : row.length ≤ all.length := h.st.rk.len
theorem AbW.next {w wr wq : World} {all : List ClassL} {R : List Nat} {v v' : Value} {at' : Nat} {row row' : List Nat} (h : AbW w wr all R v at' row) (hlt : at' < row.length) (e : row' = meetsL all row (parK all row[at'])) (hb : Below w.heap.size w wq) (ho : StrO w.heap.size wq v' (row'.map (nameK all))) : AbW w wq all R v' (at' + 1) row' :=
 ⟨hb, ho, e ▸ h.st.next hlt⟩
theorem StrO.below {B : Nat} {w w' : World} {v : Value} {xs : List ByteArray} (h : StrO B w v xs) (hb : Below w.heap.size w w') : StrO B w' v xs := h.kept (row := none) ⟨hb.os, hb.tape, hb.output, hb.size, fun k hk _ => hb.block k hk⟩ (Classical.em _)
theorem StrO.lt {B : Nat} {w : World} {v : Value} {xs : List ByteArray} (h : StrO B w v xs) {g : Nat} (hg : v.ownBlock = some g) : g < w.heap.size := by
 rcases h.2 with ⟨rfl, _⟩ | ⟨g', cap, cur, rfl, _, h2, _⟩
 ·cases hg
 ·injection hg with hg
  subst hg
  exact (Array.getElem?_eq_some_iff.1 h2).1
structure AiW (wN wr : World) (B nb : Nat) (all : List ClassL) (row0 : List Nat) (par : List ByteArray) (v : Value) (m : Nat) (row : List Nat) : Prop where
 hb : Below B wN wr
 sz : wN.heap.size ≤ wr.heap.size
 out : StrO B wr v (row.map (nameK all))
 ne : v.ownBlock ≠ some nb
 nlt : nb < wN.heap.size
 pc : ∀ j (hj : j < par.length), wr.cell? ⟨nb, j, none⟩ = some (.string par[j])
 rk : RowK all row
 eq : row = meetsL all row0 (par.take m)
theorem AiW.push {wN wr w3 : World} {B nb : Nat} {all : List ClassL} {row0 : List Nat} {par : List ByteArray} {v v' : Value} {m : Nat} {row : List Nat} {k : Nat} {o : Obj} (h : AiW wN wr B nb all row0 par v m row) (hm : m < par.length) (hk : atL all par[m].toList = some k) (hn : k ∉ row)
  (hg : (wr.alloc o).grownBy w3 v.ownBlock) (ho : w3.ownsRow B 9 1 v' (row.length + 1) (strsV (row.map (nameK all)) ++ [.string par[m]])) (hv : v'.ownBlock = v.ownBlock ∨ v'.ownBlock = some (wr.alloc o).heap.size) (hBN : B ≤ wN.heap.size) : AiW wN w3 B nb all row0 par v' (m + 1) (row ++ [k]) := by
 obtain ⟨hlt, hs⟩ := atL_lt hk
 have hnm : nameK all k = par[m] := by
  rw [nameK_get hlt]
  exact bytes_ext hs
 have hBo : ∀ g, v.ownBlock = some g → B ≤ g := fun g hg' => by
  rcases h.out.2 with ⟨rfl, _⟩ | ⟨g', cap, cur, rfl, h1, _⟩
  ·cases hg'
  ·injection hg' with hg'; subst hg'; exact h1
 refine ⟨h.hb.trans (grown_below' ((World.grownBy_alloc wr o v.ownBlock).trans hg) hBo (Nat.le_trans hBN h.sz)), ?_, ?_, ?_, h.nlt, fun j hj => ?_, ?_, ?_⟩
 ·have := hg.size
  simp only [World.size_alloc] at this
  have := h.sz
  omega
 ·rw [nameK_ext, hnm]
  show w3.ownsRow B 9 1 v' _ _
  rw [strsV_append]
  have e : (row.map (nameK all) ++ [par[m]]).length = row.length + 1 := by simp
  rw [e]
  exact ho
 ·rcases hv with hv | hv
  ·rw [hv]; exact h.ne
  ·rw [hv]
   intro e
   injection e with e
   have := h.nlt
   have := h.sz
   simp only [World.size_alloc] at e
   omega
 ·have hc := h.pc j hj
  have h1 : (wr.alloc o).cell? ⟨nb, j, none⟩ = some (.string par[j]) := ((Below.refl _ wr).alloc (Nat.le_refl _) o).cell (p := ⟨nb, j, none⟩) (by have := h.nlt; have := h.sz; show nb < _; omega) |>.trans hc
  exact hg.cell h1 (fun e => h.ne e.symm)
 ·have := h.rk.meet par[m]
  unfold meetL at this
  rw [hk] at this
  simpa [hn] using this
 ·rw [meetsL_take hm, ← h.eq]
  unfold meetL
  rw [hk]
  simp [hn]
theorem AiW.pass {wN wr : World} {B nb : Nat} {all : List ClassL} {row0 : List Nat} {par : List ByteArray} {v : Value} {m : Nat} {row : List Nat} (h : AiW wN wr B nb all row0 par v m row) (hm : m < par.length) (hk : ∀ k, atL all par[m].toList = some k → k ∈ row) : AiW wN wr B nb all row0 par v (m + 1) row := by
 refine ⟨h.hb, h.sz, h.out, h.ne, h.nlt, h.pc, h.rk, ?_⟩
 rw [meetsL_take hm, ← h.eq]
 unfold meetL
 cases e : atL all par[m].toList with
 | none => rfl
 | some k => simp [hk k e]
theorem StrO.cell {w : World} {B g n c : Nat} {xs : List ByteArray} (h : StrO B w (.slice (some ⟨g, 0, none⟩) n c) xs) {j : Nat} (hj : j < xs.length) : w.cell? ⟨g, j, none⟩ = some (.string xs[j]) := by
 obtain ⟨b, off, e, hc⟩ := h.cells.2 j hj
 injection e with e
 injection e with e1 e2
 subst e1 e2
 simpa using hc
theorem own_new1 (w : World) (s : ByteArray) (p : Nat) (hp : p = w.heap.size) (B : Nat) (hB : B ≤ p) : (w.alloc (.cells #[.string s] 9)).ownsRow B 9 1 (.slice (some ⟨p, 0, none⟩) 1 1) 1 [.string s] := by
 subst hp
 have := (own_newS w B hB [s]).resolve_right (by unfold maxLen; simp)
 simpa [StrO, strsV] using this
theorem LstK.src {B : Nat} {w : World} {v : Value} {xs : List ByteArray} (h : LstK StrK 1 B w v xs) {W : World} (hW : Below B w W) : SrcAt W 1 v xs.length (strsV xs) := by
 rcases h with ⟨rfl, rfl⟩ | ⟨b, off, c, rfl, hb, hx⟩
 ·exact .inl ⟨rfl, rfl, rfl⟩
 ·refine .inr ⟨⟨b, off, none⟩, c, rfl, by simp [strsV], fun j u hu => ?_⟩
  have hj : j < xs.length := by
   have := (List.getElem?_eq_some_iff.1 hu).1
   simpa [strsV] using this
  obtain ⟨row, h1, h2, rfl⟩ := hx j hj
  have h3 := h2 0 _ rfl
  simp only [strsV, List.getElem?_map, List.getElem?_eq_getElem hj, Option.map_some, Option.some.injEq] at hu
  subst hu
  rw [Addr.add_mid]
  exact (hW.cell (p := ⟨b, off + j, none⟩) hb).trans (by simpa using h3)
set_option maxRecDepth 1000000 in
set_option maxHeartbeats 4000000 in
theorem above6_calls (a : Option Addr) (n c : Nat) (s : ByteArray) (all : List ClassL) (w : World) (B : Nat) (hB : B ≤ w.heap.size) (ht : AllAt B w (.slice a n c) all) (hn : n ≤ 1000) (hN : Named all) (hif : ∀ x ∈ all, x.ifs.length ≤ 1048576) :
  Calls Tryz.prog 24 #[.slice a n c, .string s] w fun e w' => (∃ v, e = .returned v ∧ StrO w.heap.size w' v ((abvL all s.toList).map (nameK all))) ∧ Below w.heap.size w w' := by
 obtain ⟨i0, hi0, hz0, hz1, hz2⟩ := str_info
 have hx : Hid (all.length = n) := ht.len
 have htH : Hid (∀ W, Below w.heap.size w W → AllAt B W (.slice a n c) all) := fun W hW => ht.below' hB hW
 have hNH : Hid (Named all) := hN
 have hifH : Hid (∀ x ∈ all, x.ifs.length ≤ 1048576) := hif
 have hBH : Hid (B ≤ w.heap.size) := hB
 have nmH : Hid (∀ W, Below w.heap.size w W → NamesAt W a all) := fun W hW => (htH.out W hW).names
 obtain ⟨R, hR⟩ : ∃ R, abvL all s.toList = R := ⟨_, rfl⟩
 rw [hR]
 have hRH : Hid (abvL all s.toList = R) := hR
 clear hR ht hN hif hB
 go_enter Tryz.func24, Tryz.ntmps24
 go_wp2_with fail
 refine (at6_calls a n c s all _ hx.out (by omega) (nmH.out _ (below_1 _ _))).mono ?_
 rintro e w1 ⟨rfl, rfl⟩
 cases hat : atL all s.toList with
 | none =>
  have e1 : atZ all s.toList = -1 := by unfold atZ; rw [hat]
  rw [e1]
  have hR0 : R = [] := by rw [← hRH.out]; exact abvL_none hat
  subst hR0
  go_wp2
  go_ret
  have h0 := (own_newS w w.heap.size (Nat.le_refl _) []).resolve_right (by simp)
  exact ⟨⟨_, rfl, h0⟩, below_1 _ _⟩
 | some k =>
  have e1 : atZ all s.toList = (k : Int) := by unfold atZ; rw [hat]
  rw [e1]
  have hk0 : ¬ ((k : Int) < 0) := by omega
  obtain ⟨hkl, hks⟩ := atL_lt hat
  have hm0 : Hid (meetL all [] s = [k]) := by show _ = _; unfold meetL; rw [hat]; rfl
  have hnm : Hid (nameK all k = s) := by show _ = _; rw [nameK_get hkl]; exact bytes_ext hks
  have hst : Hid (Abv all R 0 [k]) := by
   show Abv all R 0 [k]
   rw [← hRH.out, ← hm0.out]; exact Abv.start all s
  clear hat hks e1
  go_wp2_with (refine wpList_append_src0 rfl (.tmp 16) (.tmp 18) 24 rfl 9 i0 (.string ⟨#[]⟩) 1 16 Tryz.underlying24 hi0 hz0 hz1 hz2 rfl (by decide) w.heap.size rfl _ 1 [.string s] rfl (src1 _ _ _ _ (by simp)) (fun u hu => by simp at hu; subst hu; rfl) (by unfold maxLen; omega) (by omega) (fun h => by cases h) ?_; intro v1 w1 hown hgrow)
  have hb1 : Below w.heap.size w w1 := below_on2 (below_on2 (below_1 w (.cells #[] 9)) (below_1 _ (.cells #[.string s] 9))) (grown_below' hgrow (fun k e => by cases e) (Nat.le_refl _))
  have ho1 : StrO w.heap.size w1 v1 ([k].map (nameK all)) := by
   show w1.ownsRow w.heap.size 9 1 v1 _ _
   have := own_mono hown (base' := w.heap.size) (by simp; omega)
   simpa [hnm.out, strsV] using this
  have hw1 : Hid (AbW w w1 all R v1 0 [k]) := ⟨hb1, ho1, hst.out⟩
  clear hown hgrow hb1 ho1 hst hm0 hnm
  go_loopw [5, 6] (fun v i wr => ∃ (at' : Nat) (row : List Nat), i = .int .i64 at' ∧ Hid (AbW w wr all R v at' row)) (fun _ i _ => n + 1 - (intOf i).toNat)
  case atStart => exact ⟨0, [k], rfl, hw1.out⟩
  case round =>
   rename World => wo
   rename_i vv iv
   obtain ⟨at', row, rfl, hA⟩ := hrel
   have hlen : Hid (row.length ≤ n) := by have := hA.out.len; have := hx.out; show row.length ≤ n; omega
   by_cases hlt : at' < row.length
   ·obtain ⟨g, vc, rfl⟩ := own_some hA.out.out (by simp; omega)
    simp only [List.length_map]
    have hltI : (at' : Int) < (row.length : Int) := by omega
    have hcell := hA.out.out.cell (j := at') (by simpa using hlt)
    simp only [List.getElem_map] at hcell
    obtain ⟨k, hk⟩ : ∃ k, row[at'] = k := ⟨_, rfl⟩
    rw [hk] at hcell
    have hkl : k < all.length := hA.out.st.rk.lt k (hk ▸ List.getElem_mem hlt)
    obtain ⟨b, off, p, q, sv, t, rfl, hbB, hc, hp, hq, hs5, ht6⟩ := (htH.out wo hA.out.hb).class k hkl
    obtain ⟨pa, pc, rfl⟩ := hp.form
    obtain ⟨qa, qc, rfl⟩ := hq.form
    obtain ⟨sa, sc, rfl⟩ := hs5.form
    obtain ⟨ta, tc, rfl⟩ := ht6.form
    clear hq hs5 ht6
    generalize all[k].perms.length = nq at *
    generalize all[k].fields.length = ns at *
    generalize all[k].meths.length = nt at *
    have hat : Hid (atZ all (nameK all k).toList = (k : Int)) := by show _ = _; unfold atZ; rw [nameK_get hkl, atL_self hNH.out hkl]
    have hkI : (k : Int) < (n : Int) := by have := hx.out; omega
    have hkH : Hid (row[at'] = k) := hk
    have hklH : Hid (k < all.length) := hkl
    have hpH : Hid (LstK StrK 1 B wo (.slice pa all[k].ifs.length pc) all[k].ifs) := hp
    have hifk : Hid (all[k].ifs.length ≤ 1048576) := hifH.out _ (List.getElem_mem hkl)
    obtain ⟨e0, e1, e2, e3, e4, e5, e6⟩ := hc
    generalize hX : all[k] = X at *
    have hXH : Hid (all[k] = X) := hX
    clear hX hk hkl hp hbB
    generalize nameK all k = nk at *
    go_wp2_with fail
    refine (at6_calls _ n c nk all wo hx.out (by omega) (nmH.out wo hA.out.hb)).mono ?_
    rintro e w2 ⟨rfl, rfl⟩
    rw [hat.out]
    have hBw : Hid (B ≤ w2.heap.size) := by have := hBH.out; have := hA.out.hb.size; show B ≤ w2.heap.size; omega
    go_wp2_with (refine wpList_append_src rfl (.tmp 37) (.tmp 39) 24 rfl w2.heap.size 9 i0 (.string ⟨#[]⟩) 1 16 Tryz.underlying24 hi0 hz0 hz1 hz2 rfl (by decide) _ 1 [.string X.super] rfl (own_new1 _ X.super _ (by simp) _ (by simp)) _ X.ifs.length (strsV X.ifs) rfl (hpH.out.src (((Below.refl B w2).alloc hBw.out _).alloc (by have := hBw.out; simp; omega) _)) (strsV_one _) (by have := hifk.out; unfold maxLen; omega) (by have := hifk.out; omega) (by simp; omega) ?_; intro v3 w3 hown3 hgrow3 hat3)
    have hbX : Below w2.heap.size w2 w3 := by
     refine (((Below.refl w2.heap.size w2).alloc (Nat.le_refl _) _).alloc (by simp) _).trans (grown_below' hgrow3 (fun k e => ?_) (by simp; omega))
     have e' : w2.heap.size + 1 = k := Option.some.inj e
     omega
    obtain ⟨g3, c3, rfl⟩ := own_some hown3 (by omega)
    obtain ⟨par, hpar⟩ : ∃ par, par = parL X := ⟨_, rfl⟩
    have hparK : Hid (parK all (row[at']'hlt) = par) := by
     show _ = _
     rw [hkH.out, parK_get hklH.out, hpar]
     exact congrArg parL hXH.out
    have hlp : X.ifs.length + 1 = par.length := by rw [hpar]; simp [parL]
    have hO3 : StrO w2.heap.size w3 (.slice (some ⟨g3, 0, none⟩) (1 + X.ifs.length) c3) par := by
     have e : 1 + X.ifs.length = par.length := by omega
     unfold StrO
     rw [← e, hpar]
     exact hown3
    have hg3 : w2.heap.size ≤ g3 ∧ g3 < w3.heap.size := by
     rcases hO3.2 with ⟨h, _⟩ | ⟨g', cap, cur, e, h1, h2, _⟩
     ·cases h
     ·injection e with e
      injection e with e
      injection e with e
      subst e
      exact ⟨h1, (Array.getElem?_eq_some_iff.1 h2).1⟩
    have hg2 : g < w2.heap.size := hA.out.out.lt rfl
    have hAi0 : Hid (AiW w3 w3 w.heap.size g3 all row par (.slice (some ⟨g, 0, none⟩) row.length vc) 0 row) := by
     refine ⟨Below.refl _ _, Nat.le_refl _, ?_, ?_, hg3.2, fun j hj => hO3.cell hj, hA.out.st.rk, rfl⟩
     ·have := hA.out.out.below hbX
      simpa using this
     ·simp only [Value.ownBlock, ne_eq, Option.some.injEq]
      omega
    have hbXH : Hid (Below w2.heap.size w2 w3) := hbX
    have hparN : Hid (par.length ≤ 1048577) := by have := hifk.out; show par.length ≤ 1048577; omega
    rw [show 1 + X.ifs.length = par.length by omega]
    have hpl : Hid (0 < par.length) := by show 0 < par.length; omega
    clear hown3 hgrow3 hat3 hbX hpar hO3 hg3 hg2 e0 e1 e2 e3 e4 e5 e6 hcell hpH hat hifk hlp
    go_loopw [5, 9] (fun v i wr => ∃ (m : Nat) (row' : List Nat), i = .int .i64 m ∧ m ≤ par.length ∧ Hid (AiW w3 wr w.heap.size g3 all row par v m row')) (fun _ i _ => par.length - (intOf i).toNat)
    case atStart => exact ⟨0, row, rfl, Nat.zero_le _, hAi0.out⟩
    case round =>
     obtain ⟨m, row', rfl, hm, hI⟩ := hrel
     have hrl : row.length ≤ row'.length := by
      have := (meetsL_pre all (par.take m) row).length_le
      rw [← hI.out.eq] at this
      exact this
     obtain ⟨g4, c4, rfl⟩ := own_some hI.out.out (by simp; omega)
     simp only [List.length_map]
     have hBw3 : Hid (Below w.heap.size w wr) := (hA.out.hb.trans (hbXH.out.mono hA.out.hb.size)).trans hI.out.hb
     by_cases hmp : m < par.length
     ·have hmI : (m : Int) < (par.length : Int) := by omega
      have hpB : par.length ≤ 1048577 := hparN.out
      have hcm := hI.out.pc m hmp
      obtain ⟨nm, hnm⟩ : ∃ nm, par[m] = nm := ⟨_, rfl⟩
      have hnmH : Hid (par[m] = nm) := hnm
      rw [hnm] at hcm
      clear hnm
      have hinH : Hid (Calls Tryz.prog 44 #[.slice (some ⟨g4, 0, none⟩) row'.length c4, .string nm] wr fun e w' => e = .returned (.bool ((row'.map (nameK all)).any fun y => y.toList == nm.toList)) ∧ w' = wr) :=
       l2In_calls _ _ _ nm (row'.map (nameK all)) wr (by simp) (by have := hI.out.rk.len; have := hx.out; omega) (fun j hj => by
        have := hI.out.out.cell hj
        exact ⟨g4, 0, rfl, by simpa using this⟩)
      cases hat : atL all nm.toList with
      | none =>
       have hatZ : Hid (atZ all nm.toList = -1) := by show _ = _; unfold atZ; rw [hat]
       go_wp2_with fail
       refine (at6_calls _ n c nm all wr hx.out (by omega) (nmH.out wr hBw3.out)).mono ?_
       rintro e wz ⟨rfl, rfl⟩
       rw [hatZ.out]
       go_wp2
       go_roundw
       case rel => exact ⟨m + 1, row', by go_num, by omega, by
        have := hI.out.pass hmp (fun k2 h2 => by rw [hnmH.out, hat] at h2; cases h2)
        simp only [List.length_map] at this
        exact this⟩
       case measure => simp [intOf]; omega
      | some k2 =>
       have hatZ : Hid (atZ all nm.toList = (k2 : Int)) := by show _ = _; unfold atZ; rw [hat]
       have hk2 : ((k2 : Int) ≥ 0) := by omega
       have hin := in_names hNH.out hI.out.rk hat
       have hin' : ((row'.map (nameK all)).any fun y => y.toList == nm.toList) = decide (k2 ∈ row') := by
        rw [← hin]; congr 1; funext y; exact str_beq _ _
       rw [hin'] at hinH
       go_wp2_with fail
       refine (at6_calls _ n c nm all wr hx.out (by omega) (nmH.out wr hBw3.out)).mono ?_
       rintro e wz ⟨rfl, rfl⟩
       rw [hatZ.out]
       by_cases hkin : k2 ∈ row'
       ·rw [decide_eq_true hkin] at hinH
        go_wp2_with (first | (refine hinH.out.mono ?_; rintro e wy ⟨rfl, rfl⟩))
        go_roundw
        case rel => exact ⟨m + 1, row', by go_num, by omega, by
         have := hI.out.pass hmp (fun k3 h3 => by
          rw [hnmH.out, hat] at h3
          injection h3 with h3
          exact h3 ▸ hkin)
         simp only [List.length_map] at this
         exact this⟩
        case measure => simp [intOf]; omega
       ·rw [decide_eq_false hkin] at hinH
        go_wp2_with (first
         | (refine hinH.out.mono ?_; rintro e wy ⟨rfl, rfl⟩)
         | (refine wpList_append_src rfl (.tmp 63) (.tmp 68) 24 rfl w.heap.size 9 i0 (.string ⟨#[]⟩) 1 16 Tryz.underlying24 hi0 hz0 hz1 hz2 rfl (by decide) _ row'.length (strsV (row'.map (nameK all))) rfl (by have := hI.out.out.alloc (.cells #[.string nm] 9); simp only [List.length_map] at this; exact this) _ 1 [.string nm] rfl (src1 _ _ _ _ rfl) (fun u hu => by simp at hu; subst hu; rfl) (by have := hI.out.rk.len; have := hx.out; unfold maxLen; omega) (by have := hI.out.rk.len; have := hx.out; omega) (by have := hBw3.out.size; simp; omega) ?_; intro v5 w5 hown5 hgrow5 hat5))
        have hnew := hI.out.push hmp (by rw [hnmH.out]; exact hat) hkin hgrow5 (by rw [hnmH.out]; exact hown5) hat5 (by have := hA.out.hb.size; have := hbXH.out.size; omega)
        have hnewH : Hid (AiW w3 w5 w.heap.size g3 all row par v5 (m + 1) (row' ++ [k2])) := hnew
        clear hnew hown5 hgrow5 hat5
        go_roundw
        case rel => exact ⟨m + 1, _, by go_num, by omega, hnewH.out⟩
        case measure => simp [intOf]; omega
     ·have hme : m = par.length := by omega
      have hmI : ¬ ((m : Int) < (par.length : Int)) := by omega
      have hnx := hA.out.next hlt (row' := row') (by rw [hI.out.eq, hparK.out, hme, List.take_length]) hBw3.out hI.out.out
      have hnxH : Hid (AbW w wr all R (.slice (some ⟨g4, 0, none⟩) row'.length c4) (at' + 1) row') := by
       have := hnx
       simp only [List.length_map] at this
       exact this
      clear hnx
      have hrB : row.length ≤ n := hlen.out
      go_wp2
      go_roundw
      case rel => exact ⟨at' + 1, row', by go_num, hnxH.out⟩
      case measure => simp [intOf]; omega
   ·have hlt' : ¬ ((at' : Int) < (row.length : Int)) := by omega
    obtain ⟨va, vc, rfl⟩ := own_shape hA.out.out
    simp only [List.length_map]
    have hdone := hA.out.st.done (by omega)
    have hoH : Hid (StrO w.heap.size wo (.slice va row.length vc) (R.map (nameK all))) := by
     have := hA.out.out
     rw [hdone] at this
     rw [hdone]
     simp only [List.length_map] at this
     exact this
    have hbH : Hid (Below w.heap.size w wo) := hA.out.hb
    clear hdone
    go_wp2
    go_ret
    exact ⟨⟨_, rfl, hoH.out⟩, hbH.out⟩
end Go.Proofs.YtjjccimeikkogaaGreatDoor
