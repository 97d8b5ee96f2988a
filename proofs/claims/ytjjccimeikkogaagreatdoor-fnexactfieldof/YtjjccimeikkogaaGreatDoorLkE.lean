import Derived.Test.YtjjccimeikkogaaGreatDoorLkC
import Derived.StillTailTactics
namespace Go.Proofs.YtjjccimeikkogaaGreatDoor
set_option linter.unusedVariables false
open Go.Maps Go.WideMaps
open Go.ChangeShapes Go.WideShapes Go.ChangeAt Go.RowKit
structure AllOk (all : List ClassL) : Prop where
 nm : Named all
 len : all.length ≤ 100
 ifs : ∀ x ∈ all, x.ifs.length ≤ 1048576
 nsz : ∀ x ∈ all, x.name.size ≤ 1048576
 nok : ∀ x ∈ all, nameOk x.name.data.toList = true
 psz : ∀ x ∈ all, ∀ s ∈ parL x, s.size ≤ 1048576
structure NumsOf (D : DataW Unit) (all : List ClassL) (m : Nat) : Prop where
 has : ∀ s : List UInt8, Maps.has D (.string s) = ((atL (all.take m) s).isSome)
 at_ : ∀ (s : List UInt8) (k : Nat), atL (all.take m) s = some k → D.atKey (.string s) (.lit (.int .i64 0)) = .lit (.int .i64 k)
 no : ∀ (s : List UInt8), atL (all.take m) s = none → D.atKey (.string s) (.lit (.int .i64 0)) = .lit (.int .i64 0)
theorem atL_snoc {all : List ClassL} {c : ClassL} {s : List UInt8} : atL (all ++ [c]) s = match atL all s with
  | some k => some k
  | none => if c.name.toList = s then some all.length else none := by
 induction all with
 | nil => simp [atL]
 | cons x r ih =>
  simp only [List.cons_append, atL, List.length_cons]
  by_cases e : x.name.toList = s
  ·rw [if_pos e, if_pos e]
  ·rw [if_neg e, if_neg e, ih]
   cases atL r s with
   | some k => rfl
   | none =>
    by_cases e2 : c.name.toList = s
    ·simp [e2]
    ·simp [e2]
theorem atL_take_none {all : List ClassL} (hn : Named all) {m : Nat} (h : m < all.length) : atL (all.take m) all[m].name.toList = none := by
 refine atL_none fun c hc e => ?_
 obtain ⟨j, hj, rfl⟩ := List.mem_iff_getElem.1 hc
 have hjm : j < m := by simp at hj; omega
 rw [List.getElem_take] at e
 have h1 := atL_self hn (k := j) (by omega)
 have h2 := atL_self hn h
 rw [e, h2] at h1
 injection h1 with h1
 omega
theorem NumsOf.start (all : List ClassL) : NumsOf (.map []) all 0 := ⟨fun s => rfl, fun s k h => by simp [atL] at h, fun s _ => rfl⟩
theorem NumsOf.put {D : DataW Unit} {all : List ClassL} {m : Nat} (h : NumsOf D all m) (hD : Maps.IsMap D) (hn : Named all) (hm : m < all.length) : NumsOf (D.put (.string (strLit all[m].name)) (.lit (.int .i64 m))) all (m + 1) := by
 have e : strLit all[m].name = all[m].name.toList := by rw [ByteArray.toList_eq]; rfl
 have ht : all.take (m + 1) = all.take m ++ [all[m]] := (List.take_append_getElem hm).symm
 have h0 := atL_take_none hn hm
 have key : ∀ s, atL (all.take (m + 1)) s = if s = strLit all[m].name then some m else atL (all.take m) s := fun s => by
  rw [ht, atL_snoc]
  by_cases q : s = strLit all[m].name
  ·rw [if_pos q, q, e, h0]
   simp; omega
  ·rw [if_neg q]
   cases atL (all.take m) s with
   | some k => rfl
   | none => simp only; rw [if_neg (fun q2 => q (by rw [e]; exact q2.symm))]
 refine ⟨fun s => ?_, fun s k hk => ?_, fun s hk => ?_⟩
 ·rw [key]
  by_cases q : s = strLit all[m].name
  ·subst q
   rw [Maps.has_put_same hD (k := .string _) trivial, if_pos rfl]; rfl
  ·rw [Maps.has_put_other (k := .string (strLit all[m].name)) (k' := .string s) (by simpa using q), h.has, if_neg q]
 ·rw [key] at hk
  by_cases q : s = strLit all[m].name
  ·subst q
   rw [if_pos rfl] at hk
   injection hk with hk
   subst hk
   rw [Maps.atKey_put_same hD (k := .string _) trivial]
  ·rw [if_neg q] at hk
   rw [Maps.atKey_put_other (k := .string (strLit all[m].name)) (k' := .string s) (by simpa using q)]
   exact h.at_ s k hk
 ·rw [key] at hk
  by_cases q : s = strLit all[m].name
  ·rw [if_pos q] at hk; cases hk
  ·rw [if_neg q] at hk
   rw [Maps.atKey_put_other (k := .string (strLit all[m].name)) (k' := .string s) (by simpa using q)]
   exact h.no s hk
structure SpcAt (w : World) (b0 P : Nat) (all : List ClassL) (av ov : Value) (M J R rc : Nat) (D : DataW Unit) : Prop where
 blk : w.heap[P]? = some (.cells #[av, ov, .map (some M), .slice (some ⟨R, 0, none⟩) all.length rc, .map (some J)] 78 (0, 0))
 all_ : AllAt w.heap.size w av all
 map : w.ownsMap Tryz.prog 9 (plainElem Tryz.prog 3) M all.length D
 num : NumsOf D all all.length
 rch : ∀ k, k < all.length → w.cell? ⟨R, k, none⟩ = some (.slice none 0 0) ∧ w.frozen? ⟨R, k, none⟩ = false
 lo : b0 ≤ P ∧ b0 ≤ R
theorem AllAt.on {B : Nat} {w w' : World} {v : Value} {all : List ClassL} (h : AllAt B w v all) (hB : B ≤ w.heap.size) (hb : Below w.heap.size w w') : AllAt w'.heap.size w' v all := LstK.kept ClsK.kept h (Nat.le_trans hB hb.size) (Same.below (hb.mono hB))
theorem SpcAt.below {w w' : World} {b0 P : Nat} {all : List ClassL} {av ov : Value} {M J R rc : Nat} {D : DataW Unit} (h : SpcAt w b0 P all av ov M J R rc D) (hb : Below w.heap.size w w') : SpcAt w' b0 P all av ov M J R rc D := by
 have hP : P < w.heap.size := (Array.getElem?_eq_some_iff.1 h.blk).1
 refine ⟨(hb.block P hP).trans h.blk, AllAt.on h.all_ (Nat.le_refl _) hb, ?_, h.num, fun k hk => ?_, h.lo⟩
 ·exact h.map.kept (row := none) ⟨hb.os, hb.tape, hb.output, hb.size, fun k hk _ => hb.block k hk⟩ (by simp)
 ·obtain ⟨h1, h2⟩ := h.rch k hk
  have hR : R < w.heap.size := by
   by_cases q : R < w.heap.size
   ·exact q
   ·rw [World.cell?] at h1
    simp only [Array.getElem?_eq_none (Nat.le_of_not_lt q)] at h1
    cases h1
  exact ⟨(hb.cell (p := ⟨R, k, none⟩) hR).trans h1, (hb.frozen (p := ⟨R, k, none⟩) hR).trans h2⟩
theorem set_same {w : World} {b j : Nat} {cs : Array Value} {t : TypeId} (v : Value) (h : w.heap[b]? = some (.cells cs t (0, 0))) : (w.setCell ⟨b, j, none⟩ v).heap[b]? = some (.cells (cs.setIfInBounds j v) t (0, 0)) := by
 have hl : b < w.heap.size := (Array.getElem?_eq_some_iff.1 h).1
 have h2 := (Array.getElem?_eq_some_iff.1 h).2
 simp [World.setCell, hl, h2, Array.getElem_modify]
structure NsW (w3 wr : World) (P : Nat) (row : Array Value) (all : List ClassL) (m : Nat) : Prop where
 hb : Below w3.heap.size w3 wr
 blk : wr.heap[P]? = some (.cells row 78 (0, 0))
 map : ∃ D : DataW Unit, wr.ownsMap Tryz.prog 9 (plainElem Tryz.prog 3) w3.heap.size m D ∧ NumsOf D all m
 ne : P ≠ w3.heap.size
theorem NsW.on {w3 wr W : World} {P : Nat} {row : Array Value} {all : List ClassL} {m : Nat} (h : NsW w3 wr P row all m) (hb : Below wr.heap.size wr W) : NsW w3 W P row all m := by
 refine ⟨h.hb.trans (hb.mono h.hb.size), (hb.block P (Array.getElem?_eq_some_iff.1 h.blk).1).trans h.blk, ?_, h.ne⟩
 obtain ⟨D, h1, h2⟩ := h.map
 exact ⟨D, h1.kept (row := none) ⟨hb.os, hb.tape, hb.output, hb.size, fun k hk _ => hb.block k hk⟩ (by simp), h2⟩
theorem NsW.put {w3 wr W : World} {P : Nat} {row : Array Value} {all : List ClassL} {m : Nat} {D : DataW Unit} (h : NsW w3 wr P row all m) (hD : wr.ownsMap Tryz.prog 9 (plainElem Tryz.prog 3) w3.heap.size m D) (hN : NumsOf D all m) (hn : Named all) (hm : m < all.length)
  (ho : W.ownsMap Tryz.prog 9 (plainElem Tryz.prog 3) w3.heap.size (m + 1) (D.put (.string (strLit all[m].name)) (.lit (.int .i64 m)))) (hg : wr.grownBy W (some w3.heap.size)) : NsW w3 W P row all (m + 1) := by
 refine ⟨h.hb.trans (grown_below' hg (fun k e => by cases e; exact Nat.le_refl _) h.hb.size), ?_, ⟨_, ho, hN.put hD.isMap hn hm⟩, h.ne⟩
 rw [hg.block P (Array.getElem?_eq_some_iff.1 h.blk).1 (by simpa using h.ne)]
 exact h.blk
theorem SpcAt.make {w w3 wo w7 : World} {P N : Nat} {all : List ClassL} {av ov J : Value} {M Jb : Nat} {D : DataW Unit} (hal : all.length = N) (h0 : Below w.heap.size w w3) (hb : Below w3.heap.size w3 wo) (hP : wo.heap[P]? = some (.cells #[av, ov, .map (some M), .slice none 0 0, .map (some Jb)] 78 (0, 0))) (hPl : w3.heap.size ≤ P)
  (hall : AllAt w3.heap.size w3 av all) (hm : wo.ownsMap Tryz.prog 9 (plainElem Tryz.prog 3) M N D) (hn : NumsOf D all N)
  (ho : w7.ownsRow wo.heap.size 73 1 (.slice (some ⟨wo.heap.size, 0, none⟩) N N) N (List.replicate N (Value.slice none 0 0))) (hg : wo.grownBy w7 none) :
  SpcAt (w7.setCell ⟨P, 3, none⟩ (.slice (some ⟨wo.heap.size, 0, none⟩) N N)) w.heap.size P all av ov M Jb wo.heap.size N D ∧ Below w.heap.size w (w7.setCell ⟨P, 3, none⟩ (.slice (some ⟨wo.heap.size, 0, none⟩) N N)) := by
 subst hal
 have hPw : P < wo.heap.size := (Array.getElem?_eq_some_iff.1 hP).1
 have hP7 : w7.heap[P]? = some (.cells #[av, ov, .map (some M), .slice none 0 0, .map (some Jb)] 78 (0, 0)) := (hg.block P hPw (by simp)).trans hP
 have hb7 : Below wo.heap.size wo w7 := ⟨hg.os, hg.tape, hg.output, hg.size, fun k hk => hg.block k hk (by simp)⟩
 have hbz : Below w3.heap.size w3 (w7.setCell ⟨P, 3, none⟩ (.slice (some ⟨wo.heap.size, 0, none⟩) all.length all.length)) := (hb.trans (hb7.mono hb.size)).setCell hPl _
 refine ⟨⟨?_, ?_, ?_, hn, fun k hk => ?_, by have := h0.size; omega, by have := h0.size; have := hb.size; omega⟩, below_on2 h0 hbz⟩
 ·rw [set_same _ hP7]; rfl
 ·exact AllAt.on hall (Nat.le_refl _) hbz
 ·have h7 := hm.kept (row := none) hg (by simp)
  obtain ⟨es, clock, hb', rest⟩ := h7
  refine ⟨es, clock, ?_, rest⟩
  rw [Below.heap_setCell _ _ _ _ (fun q => by rw [q, hP7] at hb'; cases hb')]
  exact hb'
 ·have hcell : w7.cell? ⟨wo.heap.size, k, none⟩ = some (.slice none 0 0) ∧ w7.frozen? ⟨wo.heap.size, k, none⟩ = false := by
   rcases ho.2 with ⟨e, _⟩ | ⟨g, cap, cur, e, h1, h2, h3, h4, h5, h6⟩
   ·cases e
   ·injection e with e1 e2 e3
    injection e1 with e1
    injection e1 with e1
    subst e1
    have hk' : cur[k]? = some (.slice none 0 0) := by
     have h7 : (List.replicate all.length (Value.slice none 0 0))[k]? = some (.slice none 0 0) := by simp [hk]
     rw [← h6, List.getElem?_take_of_lt (by omega)] at h7
     simpa using h7
    exact ⟨by simp only [World.cell?, h2]; exact hk', by simp [World.frozen?, h2]⟩
  have hne : (wo.heap.size : Nat) ≠ P := by omega
  refine ⟨?_, ?_⟩
  ·rw [World.cell?_of_block (w := w7) (Below.heap_setCell _ _ _ _ hne)]; exact hcell.1
  ·rw [World.frozen?_of_block (w := w7) (Below.heap_setCell _ _ _ _ hne)]; exact hcell.2
theorem made_nils (n : Nat) : (madeCells (Value.slice none 0 0).cells (n * 1)).toList = List.replicate n (Value.slice none 0 0) := by
 rw [show (Value.slice none 0 0).cells = #[.slice none 0 0] from rfl, toList_madeCells_one, Nat.mul_one]
theorem map_info : (Tryz.prog.info? 73).map (fun i => (i.zero, i.size, i.bytes)) = some (some (.slice none 0 0), 1, 24) := by kernel_rfl
set_option maxRecDepth 1000000 in
set_option maxHeartbeats 4000000 in
theorem newSpace_calls (a : Option Addr) (n c : Nat) (xs : List ClassL) (w : World) (hc : LstK ClsK 7 w.heap.size w (.slice a n c) xs) (he : BootEnv w) (hok : AllOk (bootC ++ xs)) :
  Calls Tryz.prog 51 #[.slice a n c] w fun e w' => (∃ P av ov M J R rc D, e = .returned (.pointer (some ⟨P, 0, none⟩)) ∧ SpcAt w' w.heap.size P (bootC ++ xs) av ov M J R rc D) ∧ Below w.heap.size w w' := by
 obtain ⟨i0, hi0, hz0, hz1, hz2⟩ := info_parts Bt.info42
 have hx : Hid (xs.length = n) := hc.len
 have hn : n ≤ 100 := by have := hok.len; have := hc.len; rw [List.length_append] at *; omega
 obtain ⟨news, hrows, hcells⟩ := LstK.cells hc
 have hrH : Hid (RowsC ClsK 7 w.heap.size w news xs) := hrows
 have hcH : Hid ((Value.slice a n c = .slice none 0 0 ∧ xs = [] ∧ news = []) ∨ ∃ b off c', Value.slice a n c = .slice (some ⟨b, off, none⟩) xs.length c' ∧ b < w.heap.size ∧ w.rangeAt b off news) := hcells
 have heH : Hid (BootEnv w) := he
 obtain ⟨all, hA⟩ : ∃ all, bootC ++ xs = all := ⟨_, rfl⟩
 rw [hA] at hok ⊢
 have hAH : Hid (bootC ++ xs = all) := hA
 have hokH : Hid (AllOk all) := hok
 have halH : Hid (all.length = 16 + n) := by have := hc.len; show _ = _; rw [← hA]; simp [bootC_len, this]
 have hmm := @run_makeMap Tryz.prog
 clear hrows hcells hc he hok hA
 go_enter Tryz.func51, Tryz.ntmps51
 go_wp2_with fail
 refine (Bt.implBoot_calls w heH.out.bt).mono ?_
 intro e w1 hq
 obtain ⟨v, cells, rfl, ho, -, hk, hb2⟩ := bootQ_rows (w := w) (e := e) hq
 obtain ⟨va, vc, rfl⟩ := own_shape ho
 have hoH : Hid (w1.ownsRow w.heap.size 49 7 (.slice va 16 vc) 16 cells) := ho
 have hkH : Hid (∀ B W, w1.grownBy W (Value.slice va 16 vc).ownBlock → w1.heap.size ≤ B → RowsC ClsK 7 B W cells bootC) := hk
 have hb1 : Hid (Below w.heap.size w w1) := hb2
 clear hq ho hk hb2
 go_wp2_with (refine wpList_append_src rfl (.tmp 6) (.tmp 7) 26 rfl w.heap.size 49 i0 _ 7 136 Tryz.underlying26 hi0 hz0 hz1 hz2 rfl (by decide) _ 16 cells rfl hoH.out _ n news rfl (by
       have := src_cells (k := 7) hrH.out.1 hcH.out hb1.out
       rw [hx.out] at this
       exact this) hrH.out.one (by unfold maxLen; omega) (by omega) hb1.out.size ?_; intro v3 w3 hown hgrow hat3; obtain ⟨va3, vc3, rfl⟩ := own_shape hown)
 have hgr : w1.grownBy w3 (Value.slice va 16 vc).ownBlock := hgrow
 have hb3 : Below w.heap.size w w3 := hb1.out.trans (grown_below' hgr (fun k e => by
   obtain ⟨g, c', e2, _, hg, _⟩ := own_range hoH.out (by omega)
   rw [e2] at e
   have : g = k := Option.some.inj e
   omega) hb1.out.size)
 have hall := all_at (B := w.heap.size) (W := w1) hoH.out hkH.out (World.grownBy.refl w1 _) hgr (by rw [hx.out]; exact hown) hrH.out (Nat.le_refl _) hb3
 rw [hAH.out] at hall
 have hallH : Hid (AllAt w3.heap.size w3 (.slice va3 (16 + n) vc3) all ∧ Below w.heap.size w w3) := ⟨hall, hb3⟩
 clear hown hgrow hgr hat3 hb3 hall hoH hkH hb1 hrH hcH hx hAH
 obtain ⟨row, hrow⟩ : ∃ row : Array Value, row = #[.slice va3 (16 + n) vc3, .slice a n c, .map (some w3.heap.size), .slice none 0 0, .map (some (w3.heap.size + 1))] := ⟨_, rfl⟩
 have hrowH : Hid (row = #[.slice va3 (16 + n) vc3, .slice a n c, .map (some w3.heap.size), .slice none 0 0, .map (some (w3.heap.size + 1))]) := hrow
 have hW0 : Hid (NsW w3 (((w3.alloc (.map #[] 0)).alloc (.map #[] 0)).alloc (.cells row 78)) (w3.heap.size + 1 + 1) row all 0) := by
  refine ⟨below_on2 (below_on2 (below_1 _ _) (below_1 _ _)) (below_1 _ _), ?_, ⟨.map [], ((World.ownsMap_made w3 Tryz.prog 9 (plainElem Tryz.prog 3)).alloc _).alloc _, NumsOf.start all⟩, by omega⟩
  have := heap_alloc_new ((w3.alloc (.map #[] 0)).alloc (.map #[] 0)) (.cells row 78)
  simpa using this
 rw [← hrow]
 generalize hW : ((w3.alloc (.map #[] 0)).alloc (.map #[] 0)).alloc (.cells row 78) = W0 at *
 clear hW hrow
 have hP0 : Hid (w3.heap.size + 1 + 1 = w3.heap.size + 1 + 1) := rfl
 obtain ⟨P, hP⟩ : ∃ P, w3.heap.size + 1 + 1 = P := ⟨_, rfl⟩
 have hPH : Hid (w3.heap.size + 1 + 1 = P) := hP
 rw [hP] at hW0 ⊢
 clear hP hP0
 obtain ⟨M, hM⟩ : ∃ M, w3.heap.size = M := ⟨_, rfl⟩
 have hMH : Hid (w3.heap.size = M) := hM
 clear hM
 go_loopw [19] (fun i wr => ∃ m : Nat, i = .int .i64 m ∧ m ≤ 16 + n ∧ Hid (NsW w3 wr P row all m)) (fun i _ => 16 + n - (intOf i).toNat)
 case atStart => exact ⟨0, rfl, by omega, hW0.out⟩
 case round =>
  rename World => wo
  obtain ⟨m, rfl, hm, hS⟩ := hrel
  by_cases hlt : m < 16 + n
  ·have hltI : (m : Int) < 16 + (n : Int) := by omega
   have hma : m < all.length := by have := halH.out; omega
   have hbM : Below M w3 wo := by rw [← hMH.out]; exact hS.out.hb
   obtain ⟨b, off, p, q, sv, t, rfl, hbB, hc, hp, hq, hs5, ht6⟩ := (AllAt.below hallH.out.1 hS.out.hb).class m hma
   obtain ⟨pa, pc, rfl⟩ := hp.form
   obtain ⟨qa, qc, rfl⟩ := hq.form
   obtain ⟨sa, sc, rfl⟩ := hs5.form
   obtain ⟨ta, tc, rfl⟩ := ht6.form
   clear hp hq hs5 ht6
   generalize all[m].ifs.length = np at *
   generalize all[m].perms.length = nq at *
   generalize all[m].fields.length = ns at *
   generalize all[m].meths.length = nt at *
   obtain ⟨e0, e1, e2, e3, e4, e5, e6⟩ := hc
   have hsz : all[m].name.size ≤ 1048576 := hokH.out.nsz _ (List.getElem_mem hma)
   obtain ⟨D, hD, hN⟩ := hS.out.map
   generalize hX : all[m] = X at *
   have hXH : Hid (all[m]? = some X) := by show _ = _; rw [List.getElem?_eq_getElem hma, hX]
   have hkey : Hid (keyOf Tryz.prog 9 (.string X.name) = some (.string (strLit X.name))) := keyOf_string_mk Tryz.underlying9 (by unfold maxLen; omega)
   have hDH : Hid (∀ W, Below wo.heap.size wo W → W.ownsMap Tryz.prog 9 (plainElem Tryz.prog 3) M m D) := fun W hW => by
    rw [← hMH.out]
    exact hD.kept (row := none) ⟨hW.os, hW.tape, hW.output, hW.size, fun k hk _ => hW.block k hk⟩ (by simp)
   have hNH : Hid (NumsOf D all m) := hN
   have hcP : Hid (∀ W, Below wo.heap.size wo W → W.heap[P]? = some (.cells row 78 (0, 0))) := fun W hW => (hS.out.on hW).blk
   have hmaH : Hid (m < all.length) := hma
   clear hX hbB hbM hD hN hma
   have hr1 : ∀ W, Below wo.heap.size wo W → W.cell? ⟨P, 2, none⟩ = some (.map (some M)) := fun W hW => by
    have := hcP.out W hW
    rw [hrowH.out, hMH.out] at this
    simp [World.cell?, this]
   have hr2 := hr1 _ (below_1 wo (.cells #[.string X.name, .string X.super, .slice pa np pc, .int .i64 X.flags, .slice qa nq qc, .slice sa ns sc, .slice ta nt tc] 49))
   have hr1H : Hid (∀ W, Below wo.heap.size wo W → W.cell? ⟨P, 2, none⟩ = some (.map (some M))) := hr1
   clear hr1
   have hnc : (wo.alloc (.cells #[.string X.name, .string X.super, .slice pa np pc, .int .i64 X.flags, .slice qa nq qc, .slice sa ns sc, .slice ta nt tc] 49)).cell? ⟨wo.heap.size, 0, none⟩ = some (.string X.name) := by
    simp only [World.cell?, heap_alloc_new]
    rfl
   have hbW := below_1 wo (.cells #[.string X.name, .string X.super, .slice pa np pc, .int .i64 X.flags, .slice qa nq qc, .slice sa ns sc, .slice ta nt tc] 49)
   go_wp2
   generalize wo.alloc (.cells #[.string X.name, .string X.super, .slice pa np pc, .int .i64 X.flags, .slice qa nq qc, .slice sa ns sc, .slice ta nt tc] 49) = W1 at *
   have hbWH : Hid (Below wo.heap.size wo W1) := hbW
   have hoD : Hid (W1.ownsMap Tryz.prog 9 (plainElem Tryz.prog 3) M m D) := hDH.out _ hbW
   clear hbW e0 e1 e2 e3 e4 e5 e6
   go_still_tail 7, (by kernel_rfl)
   have hw64 : (Lit.int .i64 (m : Int)).wf = true := by
    have := wrap64_wf (m : Int)
    rwa [show wrap64 (m : Int) = (m : Int) by unfold wrap64; omega] at this
   go_wp2_with (at_mapUpdate; refine wpList_mapUpdate_own _ rfl _ _ _ 74 rfl 9 3 (string_keyed Tryz.underlying9) Tryz.underlying74 _ M m D rfl hoD.out.drew (by unfold maxLen; omega) _ _ _ rfl rfl hkey.out _ [] (plainElem_int Tryz.underlying3 hw64) ?_; intro w5 hown5 hgrow5)
   have hne : Below wo.heap.size wo W1 := hbWH.out
   have hnx : Hid (NsW w3 w5 P row all (m + 1)) := by
    have hma := hmaH.out
    have h1 := hS.out.on (hbWH.out.drew)
    refine h1.put (D := D) ?_ hNH.out hokH.out.nm hma ?_ ?_
    ·rw [hMH.out]; exact hoD.out.drew
    ·have e : all[m] = X := by
      have := hXH.out
      rw [List.getElem?_eq_getElem hma] at this
      exact Option.some.inj this
     rw [hMH.out, e]; exact hown5
    ·rw [hMH.out]; exact hgrow5
   exact ⟨⟨m + 1, by go_num, by omega, hnx.out⟩, by simp [intOf]; omega⟩
  ·have hltI : ¬ ((m : Int) < 16 + (n : Int)) := by omega
   obtain rfl : m = 16 + n := by omega
   obtain ⟨D, hD, hN⟩ := hS.out.map
   have hend : Hid (Below w3.heap.size w3 wo ∧ wo.heap[P]? = some (.cells row 78 (0, 0)) ∧ wo.ownsMap Tryz.prog 9 (plainElem Tryz.prog 3) w3.heap.size (16 + n) D ∧ NumsOf D all (16 + n)) := ⟨hS.out.hb, hS.out.blk, hD, hN⟩
   obtain ⟨i1, hi1, hy0, hy1, hy2⟩ := info_parts map_info
   have hr0 : wo.cell? ⟨P, 0, none⟩ = some (.slice va3 (16 + n) vc3) := by
    have := hend.out.2.1
    rw [hrowH.out] at this
    simp [World.cell?, this]
   clear hD hN hS
   have hr3 : ∀ W, wo.grownBy W none → W.cell? ⟨P, 3, none⟩ = some (.slice none 0 0) ∧ W.frozen? ⟨P, 3, none⟩ = false := fun W hW => by
    have hb := hend.out.2.1
    have h1 : W.heap[P]? = some (.cells row 78 (0, 0)) := (hW.block P (Array.getElem?_eq_some_iff.1 hb).1 (by simp)).trans hb
    rw [hrowH.out] at h1
    exact ⟨by simp [World.cell?, h1], by simp [World.frozen?, h1]⟩
   go_wp2_with (refine wpList_make_full _ rfl (.tmp 37) (.tmp 37) 75 rfl wo.heap.size 73 i1 _ 1 Tryz.underlying75 hi1 hy0 hy1 .i64 .i64 _ _ (16 + n) rfl rfl (by omega) (by omega) (by rw [hy2]; omega) (by unfold maxLen; omega) (Nat.le_refl _) ?_; intro w7 hown7 hgrow7; obtain ⟨hr4, hr5⟩ := hr3 w7 hgrow7)
   rw [made_nils] at hown7
   have hfin := SpcAt.make (J := .int .i64 0) halH.out hallH.out.2 hend.out.1 (by rw [← hrowH.out]; exact hend.out.2.1) (by have := hPH.out; omega) hallH.out.1 hend.out.2.2.1 hend.out.2.2.2 hown7 hgrow7
   go_ret
   exact ⟨⟨P, rfl, _, _, _, _, _, _, _, hfin.1⟩, hfin.2⟩
end Go.Proofs.YtjjccimeikkogaaGreatDoor
