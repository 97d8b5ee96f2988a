import Derived.Test.YtjjccimeikkogaaGreatDoorLkR
set_option maxRecDepth 1000000
set_option maxHeartbeats 4000000
namespace Go.Proofs.YtjjccimeikkogaaGreatDoor
set_option linter.unusedVariables false
open Go.Maps Go.WideMaps
open Go.ChangeShapes Go.WideShapes Go.ChangeAt Go.RowKit
structure ClsV (B : Nat) (w : World) (cs : Array Value) (x : ClassL) : Prop where
 ex : ∃ p q s t, cs = #[.string x.name, .string x.super, p, .int .i64 x.flags, q, s, t] ∧ LstK StrK 1 B w p x.ifs ∧ LstK StrK 1 B w q x.perms ∧ LstK FldK 3 B w s x.fields ∧ LstK MthK 9 B w t x.meths
theorem parents_calls (cs : Array Value) (x : ClassL) (w : World) (B : Nat) (hB : B ≤ w.heap.size) (hx : ClsV B w cs x) (hif : x.ifs.length ≤ 1048576) :
  Calls Tryz.prog 54 #[.agg cs] w fun e w' => (∃ g c, e = .returned (.slice (some ⟨g, 0, none⟩) (parL x).length c) ∧ StrO w.heap.size w' (.slice (some ⟨g, 0, none⟩) (parL x).length c) (parL x)) ∧ Below w.heap.size w w' := by
 obtain ⟨i0, hi0, hz0, hz1, hz2⟩ := str_info
 obtain ⟨p, q, s, t, rfl, h1, h2, h3, h4⟩ := hx.ex
 obtain ⟨pa, pc, rfl⟩ := h1.form
 obtain ⟨qa, qc, rfl⟩ := h2.form
 obtain ⟨sa, sc, rfl⟩ := h3.form
 obtain ⟨ta, tc, rfl⟩ := h4.form
 have hpH : Hid (LstK StrK 1 B w (.slice pa x.ifs.length pc) x.ifs) := h1
 clear h1 h2 h3 h4 hx
 generalize x.perms.length = nq at *
 generalize x.fields.length = ns at *
 generalize x.meths.length = nt at *
 obtain ⟨par, hpar⟩ : ∃ par, parL x = par := ⟨_, rfl⟩
 rw [hpar]
 have hparH : Hid (par = x.super :: x.ifs) := hpar.symm
 clear hpar
 go_enter Tryz.func54, Tryz.ntmps54
 go_wp2_with (refine wpList_append_src rfl (.tmp 5) (.tmp 7) 24 rfl w.heap.size 9 i0 (.string ⟨#[]⟩) 1 16 Tryz.underlying24 hi0 hz0 hz1 hz2 rfl (by decide) _ 1 [.string x.super] rfl (own_new1 _ x.super _ (by simp) _ (by simp)) _ x.ifs.length (strsV x.ifs) rfl (hpH.out.src (((Below.refl B w).alloc hB _).alloc (by simp; omega) _)) (strsV_one _) (by unfold maxLen; omega) (by omega) (by simp; omega) ?_; intro v3 w3 hown3 hgrow3 hat3; obtain ⟨g3, c3, rfl⟩ := own_some hown3 (by omega))
 have hbX : Below w.heap.size w w3 := by
  refine (((Below.refl w.heap.size w).alloc (Nat.le_refl _) _).alloc (by simp) _).trans (grown_below' hgrow3 (fun k e => ?_) (by simp; omega))
  have e' : w.heap.size + 1 = k := Option.some.inj e
  omega
 have hlp : x.ifs.length + 1 = par.length := by rw [hparH.out]; simp
 have hO3 : StrO w.heap.size w3 (.slice (some ⟨g3, 0, none⟩) (1 + x.ifs.length) c3) par := by
  have e : 1 + x.ifs.length = par.length := by omega
  unfold StrO
  rw [← e, hparH.out]
  exact hown3
 rw [show 1 + x.ifs.length = par.length by omega] at hO3 ⊢
 have hO : Hid (StrO w.heap.size w3 (.slice (some ⟨g3, 0, none⟩) par.length c3) par ∧ Below w.heap.size w w3) := ⟨hO3, hbX⟩
 clear hown3 hgrow3 hat3 hbX hO3
 go_ret
 exact ⟨⟨g3, c3, rfl, hO.out.1⟩, hO.out.2⟩
def intsK (row : List Nat) : List Value := row.map fun k : Nat => .int .i64 (k : Int)
structure ItD (W : World) (nB P : Nat) (all : List ClassL) (av ov : Value) (M J R rc : Nat) (D : DataW Unit) (CE : Nat → Array Value) : Prop where
 spc : ∃ rv, W.heap[P]? = some (.cells #[av, ov, .map (some M), rv, .map (some J)] 78 (0, 0))
 av_ : ∃ b off c, av = .slice (some ⟨b, off, none⟩) all.length c ∧ b < nB ∧ ∀ k, k < all.length → (CE k).size = 7 ∧ W.rangeAt b (off + k * 7) (CE k).toList
 ce : ∀ k (h : k < all.length), ClsV nB W (CE k) all[k]
 map : W.ownsMap Tryz.prog 9 (plainElem Tryz.prog 3) M all.length D
 num : NumsOf D all all.length
 lt : P < nB ∧ M < nB ∧ nB ≤ W.heap.size
theorem ItD.kept {W W' : World} {nB P : Nat} {all : List ClassL} {av ov : Value} {M J R rc : Nat} {D : DataW Unit} {CE : Nat → Array Value} (h : ItD W nB P all av ov M J R rc D CE) (hb : Below nB W W') : ItD W' nB P all av ov M J R rc D CE := by
 refine ⟨?_, ?_, fun k hk => ?_, ?_, h.num, h.lt.1, h.lt.2.1, Nat.le_trans h.lt.2.2 hb.size⟩
 ·obtain ⟨rv, hr⟩ := h.spc
  exact ⟨rv, (hb.block P h.lt.1).trans hr⟩
 ·obtain ⟨b, off, c, e, hl, hx⟩ := h.av_
  exact ⟨b, off, c, e, hl, fun k hk => ⟨(hx k hk).1, rangeAt_same (Same.below hb) (Nat.zero_le _) hl (hx k hk).2⟩⟩
 ·obtain ⟨p, q, s, t, e, h1, h2, h3, h4⟩ := (h.ce k hk).ex
  exact ⟨p, q, s, t, e, h1.kept StrK.kept (Nat.le_refl _) (Same.below hb), h2.kept StrK.kept (Nat.le_refl _) (Same.below hb), h3.kept FldK.kept (Nat.le_refl _) (Same.below hb), h4.kept MthK.kept (Nat.le_refl _) (Same.below hb)⟩
 ·obtain ⟨es, clock, hb', rest⟩ := h.map
  exact ⟨es, clock, (hb.block M h.lt.2.1).trans hb', rest⟩
structure MeW (W : World) (nB N mb mr rb : Nat) (rv : Value) (row : List Nat) : Prop where
 m1 : W.heap[mb]? = some (.cells #[.slice (some ⟨mr, 0, none⟩) N N] 73 (0, 0))
 m2 : ∃ cur, W.heap[mr]? = some (.cells cur 4 (0, 0)) ∧ ∀ k, k < N → cur[k]? = some (.bool (decide (k ∈ row)))
 r1 : W.heap[rb]? = some (.cells #[rv] 79 (0, 0))
 r2 : W.ownsRow nB 3 1 rv row.length (intsK row)
 lo : nB ≤ mb ∧ nB ≤ mr ∧ nB ≤ rb
theorem own_tag {w : World} {B e size : Nat} {v : Value} {n : Nat} {xs : List Value} (h : w.ownsRow B e size v n xs) {k : Nat} (hk : v.ownBlock = some k) : ∃ cur, w.heap[k]? = some (.cells cur e (0, 0)) ∧ B ≤ k := by
 rcases h.2 with ⟨rfl, _⟩ | ⟨g, cap, cur, rfl, hb, hg, _⟩
 ·cases hk
 ·injection hk with hk
  subst hk
  exact ⟨cur, hg, hb⟩
theorem MeW.self {W : World} {nB N mb mr rb : Nat} {rv : Value} {row : List Nat} (h : MeW W nB N mb mr rb rv row) (T : Nat → Prop) : (∃ rv', MeW W nB N mb mr rb rv' row ∧ (rv'.ownBlock = rv.ownBlock ∨ ∃ g, rv'.ownBlock = some g ∧ W.heap.size ≤ g)) ∧ Keep T W W :=
 ⟨⟨rv, h, .inl rfl⟩, rfl, rfl, rfl, Nat.le_refl _, fun _ _ => rfl⟩
theorem tag_ne {w : World} {a b t1 t2 : Nat} {c1 c2 : Array Value} (h1 : w.heap[a]? = some (.cells c1 t1 (0, 0))) (h2 : w.heap[b]? = some (.cells c2 t2 (0, 0))) (hn : t1 ≠ t2) : a ≠ b := by
 rintro rfl
 rw [h1] at h2
 simp only [Option.some.injEq, Obj.cells.injEq] at h2
 exact hn h2.2.1
theorem MeW.kept {W W' : World} {nB N mb mr rb : Nat} {rv : Value} {row : List Nat} (h : MeW W nB N mb mr rb rv row) (hk : ∀ k, k = mb ∨ k = mr ∨ k = rb ∨ rv.ownBlock = some k → W'.heap[k]? = W.heap[k]?) : MeW W' nB N mb mr rb rv row := by
 refine ⟨(hk mb (.inl rfl)).trans h.m1, ?_, (hk rb (.inr (.inr (.inl rfl)))).trans h.r1, own_kept h.r2 fun g hg => hk g (.inr (.inr (.inr hg))), h.lo⟩
 obtain ⟨cur, h1, h2⟩ := h.m2
 exact ⟨cur, (hk mr (.inr (.inl rfl))).trans h1, h2⟩
theorem MeW.push {W w3 : World} {nB N mb mr rb k : Nat} {rv v' : Value} {row : List Nat} {o : Obj} (h : MeW W nB N mb mr rb rv row) (hk : k < N) (hne : mr ≠ rb ∧ rv.ownBlock ≠ some mr ∧ rv.ownBlock ≠ some rb)
  (hg : ((W.setCell ⟨mr, k, none⟩ (.bool true)).alloc o).grownBy w3 rv.ownBlock) (ho : w3.ownsRow nB 3 1 v' (row.length + 1) (intsK row ++ [.int .i64 (k : Int)])) (hat : v'.ownBlock = rv.ownBlock ∨ v'.ownBlock = some ((W.setCell ⟨mr, k, none⟩ (.bool true)).alloc o).heap.size) :
  (∃ rv', MeW (w3.setCell ⟨rb, 0, none⟩ v') nB N mb mr rb rv' (row ++ [k]) ∧ (rv'.ownBlock = rv.ownBlock ∨ ∃ g, rv'.ownBlock = some g ∧ W.heap.size ≤ g)) ∧ Keep (fun j => j < W.heap.size ∧ j ≠ mr ∧ j ≠ rb ∧ rv.ownBlock ≠ some j) W (w3.setCell ⟨rb, 0, none⟩ v') := by
 obtain ⟨cur, hcu, hcur⟩ := h.m2
 have hs1 : (W.setCell ⟨mr, k, none⟩ (.bool true)).heap.size = W.heap.size := by simp [World.setCell]
 have hsa : ((W.setCell ⟨mr, k, none⟩ (.bool true)).alloc o).heap.size = W.heap.size + 1 := by rw [World.size_alloc, hs1]
 have hsz : W.heap.size + 1 ≤ w3.heap.size := by have := hg.size; omega
 have step : ∀ j, j < W.heap.size → rv.ownBlock ≠ some j → w3.heap[j]? = (W.setCell ⟨mr, k, none⟩ (.bool true)).heap[j]? := fun j hj hn => by
  rw [hg.block j (by omega) (fun q => hn q.symm), Below.heap_alloc _ o j (by omega)]
 have hlt : ∀ {j c t}, W.heap[j]? = some (.cells c t (0, 0)) → j < W.heap.size := fun hq => (Array.getElem?_eq_some_iff.1 hq).1
 have hmr3 : w3.heap[mr]? = some (.cells (cur.setIfInBounds k (.bool true)) 4 (0, 0)) := by
  rw [step mr (hlt hcu) hne.2.1, set_same _ hcu]
 have hrb3 : w3.heap[rb]? = some (.cells #[rv] 79 (0, 0)) := by
  rw [step rb (hlt h.r1) hne.2.2, Below.heap_setCell _ _ _ _ (Ne.symm hne.1)]; exact h.r1
 have hmbr : mb ≠ mr := tag_ne h.m1 hcu (by decide)
 have hmbb : mb ≠ rb := tag_ne h.m1 h.r1 (by decide)
 have hmbv : rv.ownBlock ≠ some mb := fun q => by
  obtain ⟨c', h1, _⟩ := own_tag h.r2 q
  exact tag_ne h.m1 h1 (by decide) rfl
 have hvn : v'.ownBlock ≠ some mr ∧ v'.ownBlock ≠ some rb := by
  rcases hat with q | q
  ·rw [q]; exact ⟨hne.2.1, hne.2.2⟩
  ·rw [q, hsa]
   have a1 := hlt hcu
   have a2 := hlt h.r1
   exact ⟨fun e => by injection e with e; omega, fun e => by injection e with e; omega⟩
 refine ⟨⟨v', ⟨?_, ?_, ?_, ?_, h.lo⟩, ?_⟩, ?_⟩
 ·rw [Below.heap_setCell _ _ _ _ hmbb, step mb (hlt h.m1) hmbv, Below.heap_setCell _ _ _ _ hmbr]; exact h.m1
 ·refine ⟨cur.setIfInBounds k (.bool true), by rw [Below.heap_setCell _ _ _ _ hne.1]; exact hmr3, fun j hj => ?_⟩
  rw [Array.getElem?_setIfInBounds]
  by_cases q : k = j
  ·subst q
   have : k < cur.size := (Array.getElem?_eq_some_iff.1 (hcur k hk)).1
   simp [this]
  ·rw [if_neg q, hcur j hj]
   have : (j ∈ row ++ [k]) ↔ j ∈ row := by simp; intro e; exact absurd e.symm q
   simp only [this]
 ·rw [set_same _ hrb3]; rfl
 ·have e : (row ++ [k]).length = row.length + 1 := by simp
  rw [e, show intsK (row ++ [k]) = intsK row ++ [.int .i64 (k : Int)] by simp [intsK]]
  exact own_kept ho fun g hg' => Below.heap_setCell _ _ _ _ (fun q => hvn.2 (by rw [hg']; exact congrArg some q))
 ·rcases hat with q | q
  ·exact .inl q
  ·exact .inr ⟨_, q, by omega⟩
 ·refine ⟨hg.os, hg.tape, hg.output, by simp [World.setCell] at hsz ⊢; omega, fun j ⟨j1, j2, j3, j4⟩ => ?_⟩
  rw [Below.heap_setCell _ _ _ _ j3, step j j1 j4, Below.heap_setCell _ _ _ _ j2]
theorem meet_calls (s : ByteArray) (W : World) (nB P : Nat) (all : List ClassL) (av ov : Value) (M J R rc : Nat) (D : DataW Unit) (CE : Nat → Array Value) (b1 mb mr rb : Nat) (rv : Value) (row : List Nat)
  (hd : ItD W nB P all av ov M J R rc D CE) (hb1 : W.heap[b1]? = some (.cells #[.pointer (some ⟨P, 0, none⟩)] 54 (0, 0))) (hm : MeW W nB all.length mb mr rb rv row) (hs : s.size ≤ 1048576) (hN : all.length ≤ 100) (hrk : RowK all row) :
  Calls Tryz.prog 53 #[.string s, .pointer (some ⟨b1, 0, none⟩), .pointer (some ⟨mb, 0, none⟩), .pointer (some ⟨rb, 0, none⟩)] W fun e W' => e = .returned (.tuple #[]) ∧ (∃ rv', MeW W' nB all.length mb mr rb rv' (meetL all row s) ∧ (rv'.ownBlock = rv.ownBlock ∨ ∃ g, rv'.ownBlock = some g ∧ W.heap.size ≤ g)) ∧ Keep (fun k => k < W.heap.size ∧ k ≠ mr ∧ k ≠ rb ∧ rv.ownBlock ≠ some k) W W' := by
 obtain ⟨i0, hi0, hz0, hz1, hz2⟩ := info_parts (show (Tryz.prog.info? 3).map (fun i => (i.zero, i.size, i.bytes)) = some (some (.int .i64 0), 1, 8) by kernel_rfl)
 obtain ⟨rv0, hsp⟩ := hd.spc
 have c1 : W.cell? ⟨b1, 0, none⟩ = some (.pointer (some ⟨P, 0, none⟩)) := by simp [World.cell?, hb1]
 have c2 : W.cell? ⟨P, 2, none⟩ = some (.map (some M)) := by simp [World.cell?, hsp]
 have c3 : W.cell? ⟨mb, 0, none⟩ = some (.slice (some ⟨mr, 0, none⟩) all.length all.length) := by simp [World.cell?, hm.m1]
 have hkey : Hid (keyOf Tryz.prog 9 (.string s) = some (.string (strLit s))) := keyOf_string_mk Tryz.underlying9 (by unfold maxLen; omega)
 have hes : strLit s = s.toList := by rw [ByteArray.toList_eq]; rfl
 have hmH : Hid (MeW W nB all.length mb mr rb rv row) := hm
 have hoM : Hid (W.ownsMap Tryz.prog 9 (plainElem Tryz.prog 3) M all.length D) := hd.map
 have hhas := hd.num.has (strLit s)
 rw [List.take_length, hes] at hhas
 cases hat : atL all s.toList with
 | none =>
  rw [hat] at hhas
  have hno := hd.num.no (strLit s) (by rw [List.take_length, hes]; exact hat)
  have hrow : meetL all row s = row := by unfold meetL; rw [hat]
  rw [hrow]
  have hnoH : Hid (D.atKey (.string (strLit s)) (.lit (.int .i64 0)) = .lit (.int .i64 0)) := hno
  rw [← hes] at hhas
  clear hno hd hsp hm hes hat hb1 hrow
  go_enter Tryz.func53, Tryz.ntmps53
  go_wp2_with (at_lookup; refine wpList_lookup_own_ok_int _ rfl _ _ 74 rfl 9 3 .i64 (string_keyed Tryz.underlying9) Tryz.underlying74 Tryz.underlying3 (Tryz.zeroValue3 _) M all.length D rfl hoM.out _ _ rfl hkey.out ?_; intro c hc hwc; rw [hnoH.out] at hc; rw [hhas])
  go_end0
  exact ⟨rfl, hmH.out.self _⟩
 | some k =>
  rw [hat] at hhas
  obtain ⟨hkl, hks⟩ := atL_lt hat
  have hyes := hd.num.at_ (strLit s) k (by rw [List.take_length, hes]; exact hat)
  have hyesH : Hid (D.atKey (.string (strLit s)) (.lit (.int .i64 0)) = .lit (.int .i64 k)) := hyes
  obtain ⟨cur, hcu, hcur⟩ := hm.m2
  have c4 : W.cell? ⟨mr, k, none⟩ = some (.bool (decide (k ∈ row))) := by simp only [World.cell?, hcu]; exact hcur k hkl
  have f4 : W.frozen? ⟨mr, k, none⟩ = false := by simp [World.frozen?, hcu]
  have hklI : (k : Int) < (all.length : Int) := by omega
  rw [← hes] at hhas
  by_cases hin : k ∈ row
  ·have hrow : meetL all row s = row := by unfold meetL; rw [hat]; simp [hin]
   rw [hrow]
   rw [decide_eq_true hin] at c4
   clear hyes hd hsp hm hes hat hb1 hrow hks hcu hcur hin
   go_enter Tryz.func53, Tryz.ntmps53
   go_wp2_with (at_lookup; refine wpList_lookup_own_ok_int _ rfl _ _ 74 rfl 9 3 .i64 (string_keyed Tryz.underlying9) Tryz.underlying74 Tryz.underlying3 (Tryz.zeroValue3 _) M all.length D rfl hoM.out _ _ rfl hkey.out ?_; intro c hc hwc; rw [hyesH.out] at hc; obtain rfl : (k : Int) = c := (by simpa using hc); rw [hhas])
   go_end0
   exact ⟨rfl, hmH.out.self _⟩
  ·have hrow : meetL all row s = row ++ [k] := by unfold meetL; rw [hat]; simp [hin]
   rw [hrow]
   rw [decide_eq_false hin] at c4
   obtain ⟨ra, rca, rfl⟩ := own_shape hm.r2
   have hne1 : mr ≠ rb := tag_ne hcu hm.r1 (by decide)
   have hne2 : (Value.slice ra row.length rca).ownBlock ≠ some mr := fun q => by
    obtain ⟨c', h1, _⟩ := own_tag hm.r2 q
    exact tag_ne hcu h1 (by decide) rfl
   have hne3 : (Value.slice ra row.length rca).ownBlock ≠ some rb := fun q => by
    obtain ⟨c', h1, _⟩ := own_tag hm.r2 q
    exact tag_ne hm.r1 h1 (by decide) rfl
   obtain ⟨W1, hW1⟩ : ∃ W1, W.setCell ⟨mr, k, none⟩ (.bool true) = W1 := ⟨_, rfl⟩
   have ho1 : Hid (W1.ownsRow nB 3 1 (.slice ra row.length rca) row.length (intsK row)) := by
    show World.ownsRow _ _ _ _ _ _ _
    rw [← hW1]
    exact own_kept hm.r2 fun g hg => Below.heap_setCell _ _ _ _ (fun q => hne2 (by rw [hg]; exact congrArg some q))
   have hr1 : W1.heap[rb]? = some (.cells #[.slice ra row.length rca] 79 (0, 0)) := by
    rw [← hW1, Below.heap_setCell _ _ _ _ (Ne.symm hne1)]; exact hm.r1
   have hr1H : Hid (W1.heap[rb]? = some (.cells #[.slice ra row.length rca] 79 (0, 0))) := hr1
   have c5 : W1.cell? ⟨rb, 0, none⟩ = some (.slice ra row.length rca) := by simp [World.cell?, hr1]
   have c6 : W1.cell? ⟨mb, 0, none⟩ = some (.slice (some ⟨mr, 0, none⟩) all.length all.length) := by
    rw [← hW1, World.cell?_of_block (w := W) (Below.heap_setCell _ _ _ _ (tag_ne hm.m1 hcu (by decide)))]
    exact c3
   have hW1H : Hid (W.setCell ⟨mr, k, none⟩ (.bool true) = W1) := hW1
   have hsz1 : Hid (W1.heap.size = W.heap.size) := by show _ = _; rw [← hW1]; simp [World.setCell]
   have hrl : row.length ≤ 100 := by have := hrk.len; omega
   have hnbH : Hid (nB ≤ W.heap.size) := hd.lt.2.2
   have hneH : Hid (mr ≠ rb ∧ (Value.slice ra row.length rca).ownBlock ≠ some mr ∧ (Value.slice ra row.length rca).ownBlock ≠ some rb) := ⟨hne1, hne2, hne3⟩
   have hcuH : Hid (W.heap[mr]? = some (.cells cur 4 (0, 0)) ∧ ∀ j, j < all.length → cur[j]? = some (.bool (decide (j ∈ row)))) := ⟨hcu, hcur⟩
   have hklH : Hid (k < all.length) := hkl
   clear hyes hd hsp hm hes hat hb1 hrow hks hcu hcur hin hne1 hne2 hne3 hr1 hkl
   go_enter Tryz.func53, Tryz.ntmps53
   go_upto_region 3 with (at_lookup; refine wpList_lookup_own_ok_int _ rfl _ _ 74 rfl 9 3 .i64 (string_keyed Tryz.underlying9) Tryz.underlying74 Tryz.underlying3 (Tryz.zeroValue3 _) M all.length D rfl hoM.out _ _ rfl hkey.out ?_; intro c hc hwc; rw [hyesH.out] at hc; obtain rfl : (k : Int) = c := (by simpa using hc); rw [hhas])
   clear hW1 c1 c2 c3 c4 f4
   have hg3 : ∀ (o : Obj) (w3 : World), (W1.alloc o).grownBy w3 (Value.slice ra row.length rca).ownBlock → w3.cell? ⟨rb, 0, none⟩ = some (.slice ra row.length rca) ∧ w3.frozen? ⟨rb, 0, none⟩ = false := fun o w3 hg => by
    have h1 := hr1H.out
    have hlt := (Array.getElem?_eq_some_iff.1 h1).1
    have h2 : w3.heap[rb]? = some (.cells #[.slice ra row.length rca] 79 (0, 0)) := by
     rw [hg.block rb (by simp; omega) (fun q => hneH.out.2.2 q.symm), Below.heap_alloc W1 o rb hlt]
     exact h1
    exact ⟨by simp [World.cell?, h2], by simp [World.frozen?, h2]⟩
   go_wp2_with (refine wpList_append_src rfl (.tmp 27) (.tmp 29) 79 rfl nB 3 i0 (.int .i64 0) 1 8 Tryz.underlying79 hi0 hz0 hz1 hz2 rfl (by decide) _ row.length (intsK row) rfl (ho1.out.alloc _) _ 1 [.int .i64 (k : Int)] rfl (src1 _ _ _ _ rfl) (fun u hu => by simp at hu; subst hu; rfl) (by unfold maxLen; omega) (by omega) (by have := hnbH.out; have := hsz1.out; simp; omega) ?_; intro v3 w3 hown3 hgrow3 hat3; obtain ⟨g3, c3, rfl⟩ := own_some hown3 (by omega); obtain ⟨hx5, hx6⟩ := hg3 _ _ hgrow3)
   have hpush := hmH.out.push hklH.out hneH.out (by rw [hW1H.out]; exact hgrow3) hown3 (by rw [hW1H.out]; exact hat3)
   go_end0
   exact ⟨rfl, hpush⟩
end Go.Proofs.YtjjccimeikkogaaGreatDoor
