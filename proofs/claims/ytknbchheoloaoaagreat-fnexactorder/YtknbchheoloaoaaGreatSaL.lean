/- The program's Order, over a contract of inOrder: the walk. -/
import Derived.Test.YtknbchheoloaoaaGreatSaI
import Derived.Test.YtknbchheoloaoaaGreatLtJ
namespace Go.Proofs.YtknbchheoloaoaaGreat
set_option linter.unusedVariables false
open Go.ChangeShapes Go.WideShapes Go.ChangeAt Go.RowKit
set_option maxRecDepth 1000000 in
set_option maxHeartbeats 8000000 in
theorem implOrder_no (x : LitL) (ta : Option Addr) (tc : Nat) (u : Value) (w : World) (lo hi : Nat) (hh : hi ≤ w.heap.size) (hx : ListAt ThrR 1 true lo hi w (.slice ta x.thr.length tc) x.thr) (hs : x.small) (hl : litB x = false) :
  Calls Tryz.prog 8 #[.agg #[.int .i64 x.vars, .int .i64 x.vol, .int .i64 x.locks, .slice ta x.thr.length tc], u] w fun e w' => e = .returned (.agg #[.slice none 0 0, .slice none 0 0]) ∧ Below w.heap.size w w' := by
 have hlit : Hid (∀ W, Below w.heap.size w W → Calls Tryz.prog 25 #[.agg #[.int .i64 x.vars, .int .i64 x.vol, .int .i64 x.locks, .slice ta x.thr.length tc]] W fun e w' => e = .returned (.bool false) ∧ Below W.heap.size W w') := fun W hW => by
  have h := implLit_calls x W [.int .i64 x.vars, .int .i64 x.vol, .int .i64 x.locks, .slice ta x.thr.length tc] lo hi (by have := hW.size; omega) ⟨_, rfl, hx.kept ThrR.stable (Nat.le_refl _) (Nat.le_refl _) ((Same.below hW).mono (Nat.zero_le _) hh)⟩ hs
  rw [hl] at h; exact h
 clear hx hs hl
 obtain ⟨W0, hW0⟩ : ∃ W0 : World, W0 = (w.alloc (.cells #[.int .i64 x.vars, .int .i64 x.vol, .int .i64 x.locks, .slice ta x.thr.length tc] 34)).alloc (.cells #[.slice none 0 0, .slice none 0 0] 30) := ⟨_, rfl⟩
 have hb0 : Hid (Below w.heap.size w W0) := by show Below _ _ _; rw [hW0]; exact below_on (below_1 _ _) (below_1 _ _)
 have hrow : W0.rangeAt w.heap.size 0 [.int .i64 x.vars, .int .i64 x.vol, .int .i64 x.locks, .slice ta x.thr.length tc] := by
  rw [hW0]; exact rangeAt_heap (by rw [Below.heap_alloc _ _ _ (by simp)]; exact heap_alloc_new _ _)
 have hth : Hid (W0.there (w.heap.size + 1) 0 2) := by
  show World.there _ _ _ _
  rw [hW0]
  have := there_heap (heap_alloc_new (w.alloc (.cells #[.int .i64 x.vars, .int .i64 x.vol, .int .i64 x.locks, .slice ta x.thr.length tc] 34)) (.cells #[.slice none 0 0, .slice none 0 0] 30))
  simpa using this
 have hsz : Hid (w.heap.size + 1 < W0.heap.size) := by show _ < _; rw [hW0]; simp
 have r0 := hrow 0 _ rfl
 have r1 := hrow 1 _ rfl
 have r2 := hrow 2 _ rfl
 have r3 := hrow 3 _ rfl
 simp only [Nat.zero_add] at r0 r1 r2 r3
 go_enter Tryz.func8, Tryz.ntmps8
 go_upto_region 1 with (fail)
 rw [← hW0]
 clear hW0 hrow
 go_wp2_with (first
  | (go_at_call 25; refine (show Calls _ _ _ _ _ from hlit.out _ hb0.out).mono ?_; rintro e w1 ⟨rfl, hb1⟩; have hth1 : Hid (w1.there (w.heap.size + 1) 0 2) := fun j hj => by rw [hb1.cell (p := ⟨w.heap.size + 1, 0 + j, none⟩) hsz.out, hb1.frozen (p := ⟨w.heap.size + 1, 0 + j, none⟩) hsz.out]; exact hth.out j hj)
  | (refine wpList_store_mid rfl 30 _ _ rfl (w.heap.size + 1) 0 #[.slice none 0 0, .slice none 0 0] rfl rfl hth1.out (by kernel_rfl) (all_oneCell_toArray (cs := [.slice none 0 0, .slice none 0 0]) (by simp [Value.oneCell'])) ?_))
 refine bodyPost_ret (v := .agg #[.slice none 0 0, .slice none 0 0]) (results_cell_mid rfl _ _ (w.heap.size + 1) [.slice none 0 0, .slice none 0 0] _ rfl (World.rangeAt_setCells_same w1 (w.heap.size + 1) 0 [.slice none 0 0, .slice none 0 0] hth1.out) Tryz.underlying30 rfl (by kernel_rfl)) rfl ⟨rfl, below_setCells (w.heap.size + 1) (by omega) _ 0 w1 (below_on hb0.out hb1)⟩
end Go.Proofs.YtknbchheoloaoaaGreat

/- The program's Order, over a contract of inOrder: the walk, where the test is in order. -/
namespace Go.Proofs.YtknbchheoloaoaaGreat
set_option linter.unusedVariables false
open Go.ChangeShapes Go.WideShapes Go.ChangeAt Go.RowKit
theorem flatMap_len_le {α β : Type} (f : α → List β) (c : Nat) : ∀ (l : List α), (∀ y ∈ l, (f y).length ≤ c) → (l.flatMap f).length ≤ l.length * c
 | [], _ => by simp
 | y :: l, h => by
  have h1 := h y (by simp)
  have h2 := flatMap_len_le f c l (fun z hz => h z (by simp [hz]))
  simp only [List.flatMap_cons, List.length_append, List.length_cons]
  rw [Nat.add_mul, Nat.one_mul]; omega
theorem colRaces_len (x : LitL) (ds : List DoneL) (k f : Nat) : (colRaces x ds k f).length ≤ f := by
 have := flatMap_len_le (fun i => raceAt x ds i k) 1 (List.range f) (fun y _ => raceAt_le x ds y k)
 simpa [colRaces] using this
theorem implRaces_len (x : LitL) (ds : List DoneL) (h : ds.length ≤ 12) : (implRaces x ds ds.length).length ≤ 5000 := by
 have := flatMap_len_le (fun k => colRaces x ds k k) 12 (List.range ds.length) (fun y hy => by have := colRaces_len x ds y y; have h2 : y < ds.length := (by simpa using hy); show (colRaces x ds y y).length ≤ 12; omega)
 have e : (List.range ds.length).length = ds.length := by simp
 unfold implRaces
 rw [e] at this; omega
theorem ordRest {x : LitL} (ho : OkL x) (hino : InOrd) (ds : List DoneL) (n : Nat) (hn : n = ds.length) (hlen : ds.length ≤ 12) (hin : ∀ d ∈ ds, ∃ a, actAt x d.t d.k = some a) (hnod : ds.Nodup) (P2 : Nat) (ta : Option Addr) (tc : Nat) (da : Option Addr) (dc : Nat) (w W2 w3 : World) (lo hi : Nat) (hh : hi ≤ w.heap.size) (hsz2 : w.heap.size ≤ W2.heap.size) (hx : ∀ W, Below w.heap.size w W → ListAt ThrR 1 true lo hi W (.slice ta x.thr.length tc) x.thr) (hb2 : Below w.heap.size w W2) (hc4 : W2.rangeAt P2 0 [.int .i64 x.vars, .int .i64 x.vol, .int .i64 x.locks, .slice ta x.thr.length tc]) (hP : P2 < W2.heap.size) (hP1 : w.heap.size + 1 < P2) (hth : W2.there (w.heap.size + 1) 0 2) (hv3 : w3.ownsRow W2.heap.size 53 2 (.slice da n dc) n (doneV ds)) (hb3 : Below W2.heap.size W2 w3) :
  Hid (Calls Tryz.prog 27 #[.pointer (some ⟨P2, 0, none⟩), .slice da n dc] w3 fun e w' => ∃ us, e = .returned (.slice (some ⟨w3.heap.size, 0, none⟩) n n) ∧ AhW w3 w' w3.heap.size us ∧ AhS (edgeE x ds) us n n 0) ∧
  Hid (∀ us w4, AhW w3 w4 w3.heap.size us → AhS (edgeE x ds) us n n 0 → Hid (Calls Tryz.prog 30 #[.pointer (some ⟨P2, 0, none⟩), .slice da n dc, .func (.func 28) #[] #[.pointer (some ⟨w4.heap.size, 0, none⟩)]] (w4.alloc (.cells #[.slice (some ⟨w3.heap.size, 0, none⟩) n n] 69)) fun e w6 => ∃ ra rn rc, e = .returned (.slice ra rn rc) ∧ Hid (Calls Tryz.prog 29 #[.slice ra rn rc] w6 fun e w7 => e = .returned (.slice ra rn rc) ∧ Hid (w7.there (w.heap.size + 1) 0 2 ∧ (∀ u ∈ ([.slice da n dc, .slice ra rn rc] : List Value), u.oneCell' = true) ∧ (w7.setCells (w.heap.size + 1) 0 [.slice da n dc, .slice ra rn rc]).ownsRow w.heap.size 53 2 (.slice da n dc) ds.length (doneV ds) ∧ RacesAt w.heap.size (w7.setCells (w.heap.size + 1) 0 [.slice da n dc, .slice ra rn rc]) (.slice ra rn rc) ((specRaces x ds ds.length).foldl insR []) ∧ Below w.heap.size w (w7.setCells (w.heap.size + 1) 0 [.slice da n dc, .slice ra rn rc]))))) := by
 subst hn
 have hbw3 : Below w.heap.size w w3 := below_on hb2 hb3
 have hd3 := doneAt_of hv3
 have hs3 := hb3.size
 have hc3 : w3.rangeAt P2 0 [.int .i64 x.vars, .int .i64 x.vol, .int .i64 x.locks, .slice ta x.thr.length tc] := fun j v hj => (hb3.cell (p := ⟨P2, 0 + j, none⟩) hP).trans (hc4 j v hj)
 refine ⟨ahead_calls P2 ta tc da dc ds w3 lo hi (by omega) (hx w3 hbw3) hd3.2.2 (by omega) hd3.2.1 hin (by omega) hc3, fun us w4 hA hS => ?_⟩
 have hbw4 : Below w.heap.size w w4 := below_on hbw3 hA.hb
 have hs4 := hA.hb.size
 obtain ⟨W5, hW5⟩ : ∃ W5, W5 = w4.alloc (.cells #[.slice (some ⟨w3.heap.size, 0, none⟩) ds.length ds.length] 69) := ⟨_, rfl⟩
 have hb45 : Below w4.heap.size w4 W5 := by rw [hW5]; exact below_1 _ _
 have hs45 : w4.heap.size < W5.heap.size := by rw [hW5]; simp
 have hbw5 : Below w.heap.size w W5 := below_on hbw4 hb45
 have hb35 : Below w3.heap.size w3 W5 := below_on hA.hb hb45
 have hcv : W5.cell? ⟨w4.heap.size, 0, none⟩ = some (.slice (some ⟨w3.heap.size, 0, none⟩) ds.length ds.length) := by rw [hW5]; exact rangeAt_heap (heap_alloc_new w4 _) 0 _ rfl
 have hA5 : AhW w3 W5 w3.heap.size us := hA.on hb45
 rw [← hW5]
 have hsu : ∀ f k, f < k → k < ds.length → ∀ W, Below W5.heap.size W5 W → Calls Tryz.prog 28 #[.int .i64 (f : Int), .int .i64 (k : Int), .pointer (some ⟨w4.heap.size, 0, none⟩)] W fun e w' => e = .returned (.bool (!pthB (edgeE x ds) f k)) ∧ Below W.heap.size W w' := fun f k hfk hk W hW => by
  have hkl : k < us.length := by rw [hS.len]; exact hk
  have hbit := hS.bit k us[k] (List.getElem?_eq_getElem hkl) f
  rw [if_pos hk] at hbit
  have hsW := hW.size
  have h := apart_calls f k ds.length w3.heap.size w4.heap.size us[k] W (by omega) hk (by omega) (hS.lt k _ (List.getElem?_eq_getElem hkl)) (by omega) (by have := hA.hi; omega) ((hW.cell (p := ⟨w4.heap.size, 0, none⟩) hs45).trans hcv) ((hA5.on hW).at (List.getElem?_eq_getElem hkl))
  rw [hbit] at h; exact h
 refine (races_calls ho P2 w4.heap.size ta tc da dc ds W5 lo hi (by omega) (hx W5 hbw5) (hd3.2.2.on hb35) (by omega) hd3.2.1 hin (by omega) (fun j v hj => (hb35.cell (p := ⟨P2, 0 + j, none⟩) (by show P2 < _; omega)).trans (hc3 j v hj)) hsu).mono ?_
 rintro e w6 ⟨v, rfl, hR6, hb6⟩
 obtain ⟨ra, rc, hve⟩ := own_form hR6
 refine ⟨ra, _, rc, by rw [hve], ?_⟩
 rw [← hve]
 have hrl : (implRaces x ds ds.length).length ≤ 5000 := implRaces_len x ds hlen
 refine (show Calls _ _ _ _ _ from hino W5.heap.size v _ w6 hb6.size hrl hR6).mono ?_
 rintro e w7 ⟨rfl, rs', hp, hs, hR7, hg⟩
 refine ⟨rfl, ?_⟩
 have hrs : rs' = (specRaces x ds ds.length).foldl insR [] := races_eq hnod hp hs
 subst hrs
 have hb57 : Below W5.heap.size W5 w7 := hb6.grown hg hb6.size (fun k e => (World.ownsRow.lt hR6 k e).1)
 have hb37 : Below w3.heap.size w3 w7 := hb35.trans (hb57.mono (by have := hb35.size; omega))
 have hb27 : Below W2.heap.size W2 w7 := hb3.trans (hb37.mono hs3)
 have hbw7 : Below w.heap.size w w7 := hbw5.trans (hb57.mono (by have := hbw5.size; omega))
 have ht7 : w7.there (w.heap.size + 1) 0 2 := fun j hj => by
  rw [hb27.cell (p := ⟨w.heap.size + 1, 0 + j, none⟩) (show w.heap.size + 1 < _ by omega), hb27.frozen (p := ⟨w.heap.size + 1, 0 + j, none⟩) (show w.heap.size + 1 < _ by omega)]
  exact hth j hj
 have hv7 : w7.ownsRow W2.heap.size 53 2 (.slice da ds.length dc) ds.length (doneV ds) := own_below hv3 hb37 (fun g hg => (World.ownsRow.lt hv3 g hg).2)
 have oth : ∀ g, w.heap.size + 1 < g → g < w7.heap.size → (w7.setCells (w.heap.size + 1) 0 [.slice da ds.length dc, v]).heap[g]? = w7.heap[g]? := fun g h1 h2 => World.heap_setCells_other w7 (w.heap.size + 1) 0 _ h2 (by omega)
 refine ⟨ht7, fun u hu => ?_, own_kept (own_mono hv7 (by omega)) fun g hg => oth g (by have := (World.ownsRow.lt hv7 g hg).1; omega) (World.ownsRow.lt hv7 g hg).2, own_kept (own_mono hR7 (by omega)) fun g hg => oth g (by have := (World.ownsRow.lt hR7 g hg).1; omega) (World.ownsRow.lt hR7 g hg).2, below_setCells (w.heap.size + 1) (by omega) _ 0 w7 hbw7⟩
 simp at hu
 rcases hu with rfl | rfl
 ·rfl
 ·rw [hve]; rfl
theorem take_same (zs : List Int) (h : zs.length ≤ 4000) : zs.take 4000 = zs := List.take_of_length_le h
set_option maxRecDepth 1000000 in
set_option maxHeartbeats 8000000 in
theorem implOrder_few (hino : InOrd) (x : LitL) (ta : Option Addr) (tc : Nat) (za : Option Addr) (zc : Nat) (zs : List Int) (w : World) (lo hi lo2 hi2 : Nat) (hh : hi ≤ w.heap.size) (hh2 : hi2 ≤ w.heap.size) (hx : ListAt ThrR 1 true lo hi w (.slice ta x.thr.length tc) x.thr) (hz : ListAt IntR 1 true lo2 hi2 w (.slice za zs.length zc) zs) (hzl : zs.length ≤ 1048576) (hs : x.small) (hl : litB x = true) (hmm : zs.length ≤ 4000) (ds : List DoneL) (hds : ds = runS x (startS x.thr.length x.vars.toNat) (zs.take 4000)) :
  Calls Tryz.prog 8 #[.agg #[.int .i64 x.vars, .int .i64 x.vol, .int .i64 x.locks, .slice ta x.thr.length tc], .slice za zs.length zc] w fun e w' => ∃ v1 v2, e = .returned (.agg #[v1, v2]) ∧ w'.ownsRow w.heap.size 53 2 v1 ds.length (doneV ds) ∧ RacesAt w.heap.size w' v2 ((specRaces x ds ds.length).foldl insR []) ∧ Below w.heap.size w w' := by
 have hlit : Hid (∀ W, Below w.heap.size w W → Calls Tryz.prog 25 #[.agg #[.int .i64 x.vars, .int .i64 x.vol, .int .i64 x.locks, .slice ta x.thr.length tc]] W fun e w' => e = .returned (.bool true) ∧ Below W.heap.size W w') := fun W hW => by
  have h := implLit_calls x W [.int .i64 x.vars, .int .i64 x.vol, .int .i64 x.locks, .slice ta x.thr.length tc] lo hi (by have := hW.size; omega) ⟨_, rfl, hx.kept ThrR.stable (Nat.le_refl _) (Nat.le_refl _) ((Same.below hW).mono (Nat.zero_le _) hh)⟩ hs
  rw [hl] at h; exact h
 obtain ⟨ho, _, hf⟩ := lit_ok hl
 have hlen4 : (zs.take 4000).length = zs.length := by rw [take_same zs hmm]
 have hxH : Hid (∀ W, Below w.heap.size w W → ListAt ThrR 1 true lo hi W (.slice ta x.thr.length tc) x.thr) := fun W hW => hx.kept ThrR.stable (Nat.le_refl _) (Nat.le_refl _) ((Same.below hW).mono (Nat.zero_le _) hh)
 have hzH : Hid (∀ W, Below w.heap.size w W → ListAt IntR 1 true lo2 hi2 W (.slice za (zs.take 4000).length zc) (zs.take 4000)) := fun W hW => by
  have h1 := hz.kept IntR.stable (Nat.le_refl _) (Nat.le_refl _) ((Same.below hW).mono (Nat.zero_le _) hh2)
  rw [take_same zs hmm]; exact h1
 have hzc : zs.length ≤ zc := hz.cap
 have hmi : (zs.length : Int) ≤ 4000 := by omega
 have hm1 : (zs.length : Int) ≤ zc := by omega
 have hm2 : ((zs.length : Nat) : Int) ≤ zc := by omega
 clear hx hz hs hl
 obtain ⟨W0, hW0⟩ : ∃ W0 : World, W0 = (w.alloc (.cells #[.int .i64 x.vars, .int .i64 x.vol, .int .i64 x.locks, .slice ta x.thr.length tc] 34)).alloc (.cells #[.slice none 0 0, .slice none 0 0] 30) := ⟨_, rfl⟩
 have hb0 : Hid (Below w.heap.size w W0) := by show Below _ _ _; rw [hW0]; exact below_on (below_1 _ _) (below_1 _ _)
 have hrow : W0.rangeAt w.heap.size 0 [.int .i64 x.vars, .int .i64 x.vol, .int .i64 x.locks, .slice ta x.thr.length tc] := by
  rw [hW0]; exact rangeAt_heap (by rw [Below.heap_alloc _ _ _ (by simp)]; exact heap_alloc_new _ _)
 have hth : Hid (W0.there (w.heap.size + 1) 0 2) := by
  show World.there _ _ _ _
  rw [hW0]
  have := there_heap (heap_alloc_new (w.alloc (.cells #[.int .i64 x.vars, .int .i64 x.vol, .int .i64 x.locks, .slice ta x.thr.length tc] 34)) (.cells #[.slice none 0 0, .slice none 0 0] 30))
  simpa using this
 have hsz : Hid (w.heap.size + 1 < W0.heap.size) := by show _ < _; rw [hW0]; simp
 have r0 := hrow 0 _ rfl
 have r1 := hrow 1 _ rfl
 have r2 := hrow 2 _ rfl
 have r3 := hrow 3 _ rfl
 simp only [Nat.zero_add] at r0 r1 r2 r3
 go_enter Tryz.func8, Tryz.ntmps8
 go_upto_region 1 with (fail)
 rw [← hW0]
 clear hW0 hrow
 go_upto_region 4 with (first
  | (go_at_call 25; refine (show Calls _ _ _ _ _ from hlit.out _ hb0.out).mono ?_; rintro e w1 ⟨rfl, hb1⟩; have hth1 : Hid (w1.there (w.heap.size + 1) 0 2) := (fun j hj => by rw [hb1.cell (p := ⟨w.heap.size + 1, 0 + j, none⟩) hsz.out, hb1.frozen (p := ⟨w.heap.size + 1, 0 + j, none⟩) hsz.out]; exact hth.out j hj); have r0 := (hb1.cell (p := ⟨w.heap.size, 0, none⟩) (show w.heap.size < _ by have := hsz.out; omega)).trans r0; have r1 := (hb1.cell (p := ⟨w.heap.size, 1, none⟩) (show w.heap.size < _ by have := hsz.out; omega)).trans r1; have r2 := (hb1.cell (p := ⟨w.heap.size, 2, none⟩) (show w.heap.size < _ by have := hsz.out; omega)).trans r2; have r3 := (hb1.cell (p := ⟨w.heap.size, 3, none⟩) (show w.heap.size < _ by have := hsz.out; omega)).trans r3))
 obtain ⟨P2, hP2⟩ : ∃ P2, P2 = w1.heap.size := ⟨_, rfl⟩
 obtain ⟨W2, hW2⟩ : ∃ W2 : World, W2 = w1.alloc (.cells #[.int .i64 x.vars, .int .i64 x.vol, .int .i64 x.locks, .slice ta x.thr.length tc, .bool false, .map none, .slice none 0 0] 67) := ⟨_, rfl⟩
 have hb2 : Hid (Below w.heap.size w W2) := by show Below _ _ _; rw [hW2]; exact below_on (below_on hb0.out hb1) (below_1 _ _)
 have hb12 : Below w1.heap.size w1 W2 := by rw [hW2]; exact below_1 _ _
 have hP1 : w.heap.size + 1 < w1.heap.size := Nat.lt_of_lt_of_le hsz.out hb1.size
 have hth2 : Hid (W2.there (w.heap.size + 1) 0 2) := fun j hj => by rw [hb12.cell (p := ⟨w.heap.size + 1, 0 + j, none⟩) hP1, hb12.frozen (p := ⟨w.heap.size + 1, 0 + j, none⟩) hP1]; exact hth1.out j hj
 have h7 : W2.rangeAt P2 0 [.int .i64 x.vars, .int .i64 x.vol, .int .i64 x.locks, .slice ta x.thr.length tc, .bool false, .map none, .slice none 0 0] := by rw [hW2, hP2]; exact rangeAt_heap (heap_alloc_new _ _)
 have hc5 : Hid (W2.rangeAt P2 0 [.int .i64 x.vars, .int .i64 x.vol, .int .i64 x.locks, .slice ta x.thr.length tc, .bool false]) := fun j v hj => h7 j v (by rcases j with _ | _ | _ | _ | _ | j <;> simp at hj ⊢ <;> exact hj)
 have hc4 : Hid (W2.rangeAt P2 0 [.int .i64 x.vars, .int .i64 x.vol, .int .i64 x.locks, .slice ta x.thr.length tc]) := fun j v hj => h7 j v (by rcases j with _ | _ | _ | _ | j <;> simp at hj ⊢ <;> exact hj)
 have hs2 : Hid (w.heap.size + 1 < P2 ∧ P2 < W2.heap.size) := by refine ⟨by omega, ?_⟩; rw [hW2, hP2]; simp
 rw [← hW2, ← hP2]
 have hfol : Hid (Calls Tryz.prog 26 #[.pointer (some ⟨P2, 0, none⟩), .slice za zs.length zc] W2 fun e w' => ∃ v, e = .returned v ∧ w'.ownsRow W2.heap.size 53 2 v ds.length (doneV ds) ∧ Below W2.heap.size W2 w') := by
  have hsb := hb2.out.size
  have h := follow_calls ho hf P2 ta tc za zc (zs.take 4000) W2 lo hi lo2 hi2 (by omega) (by omega) (hxH.out W2 hb2.out) (hzH.out W2 hb2.out) (by rw [List.length_take]; omega) hs2.out.2 hc5.out
  rw [← hds, hlen4] at h; exact h
 have hin : Hid (∀ d ∈ ds, ∃ a, actAt x d.t d.k = some a) := fun d hd => (runS_in ho _ _ (wf_start ho) d (hds ▸ hd)).2
 have hlen : Hid (ds.length ≤ 12) := by
  show _ ≤ _
  have := runS_len ho (zs.take 4000) _ (wf_start ho)
  rw [← hds] at this; omega
 have hnod : Hid ds.Nodup := by show List.Nodup _; rw [hds]; exact runS_nodup ho _ _ (wf_start ho)
 have hoH : Hid (OkL x) := ho
 have hinoH : Hid InOrd := hino
 have hsz2 : Hid (w.heap.size ≤ W2.heap.size) := hb2.out.size
 have hhH : Hid (hi ≤ w.heap.size) := hh
 clear hds ho hf hino hzH hlen4 hh hh2
 clear hW2 hP2 hb12 h7 hth1 hth hb0 hb1 hsz hP1 r0 r1 r2 r3 hlit
 obtain ⟨n, hn⟩ : ∃ n, n = ds.length := ⟨_, rfl⟩
 have hnH : Hid (n = ds.length) := hn
 rw [← hn] at hfol
 clear hn
 go_wp2_with (first
  | (go_at_call 26; refine (show Calls _ _ _ _ _ from hfol.out).mono ?_; rintro e w3 ⟨v, rfl, hv3, hb3⟩; obtain ⟨da, dc, rfl⟩ := own_form hv3; obtain ⟨hah, hrst⟩ := ordRest hoH.out hinoH.out ds n hnH.out hlen.out hin.out hnod.out P2 ta tc da dc w W2 w3 lo hi hhH.out hsz2.out hxH.out hb2.out hc4.out hs2.out.2 hs2.out.1 hth2.out hv3 hb3; clear hv3 hb3 hxH hc4 hc5 hth2 hin hnod hoH hinoH)
  | (go_at_call 27; refine (show Calls _ _ _ _ _ from hah.out).mono ?_; rintro e w4 ⟨us, rfl, hA, hS⟩; have hrc := hrst.out us w4 hA hS; clear hA hS hrst)
  | (go_at_call 30; refine (show Calls _ _ _ _ _ from hrc.out).mono ?_; rintro e w6 ⟨ra, rn, rc, rfl, h6⟩)
  | (go_at_call 29; refine (show Calls _ _ _ _ _ from h6.out).mono ?_; rintro e w7 ⟨rfl, h7⟩; have hth7 := h7.out.1)
  | (refine wpList_store_mid rfl 30 _ _ rfl (w.heap.size + 1) 0 #[.slice da n dc, .slice ra rn rc] rfl rfl hth7 (by kernel_rfl) (all_oneCell_toArray (cs := [.slice da n dc, .slice ra rn rc]) h7.out.2.1) ?_))
 refine bodyPost_ret (v := .agg #[.slice da n dc, .slice ra rn rc]) (results_cell_mid rfl _ _ (w.heap.size + 1) [.slice da n dc, .slice ra rn rc] _ rfl (World.rangeAt_setCells_same w7 (w.heap.size + 1) 0 [.slice da n dc, .slice ra rn rc] hth7) Tryz.underlying30 rfl (by kernel_rfl)) rfl ?_
 refine ⟨_, _, rfl, ?_⟩
 have := h7.out.2.2
 rw [hnH.out] at this ⊢
 exact this
set_option maxRecDepth 1000000 in
set_option maxHeartbeats 8000000 in
theorem implOrder_many (hino : InOrd) (x : LitL) (ta : Option Addr) (tc : Nat) (za : Option Addr) (zc : Nat) (zs : List Int) (w : World) (lo hi lo2 hi2 : Nat) (hh : hi ≤ w.heap.size) (hh2 : hi2 ≤ w.heap.size) (hx : ListAt ThrR 1 true lo hi w (.slice ta x.thr.length tc) x.thr) (hz : ListAt IntR 1 true lo2 hi2 w (.slice za zs.length zc) zs) (hzl : zs.length ≤ 1048576) (hs : x.small) (hl : litB x = true) (hmm : 4000 < zs.length) (ds : List DoneL) (hds : ds = runS x (startS x.thr.length x.vars.toNat) (zs.take 4000)) :
  Calls Tryz.prog 8 #[.agg #[.int .i64 x.vars, .int .i64 x.vol, .int .i64 x.locks, .slice ta x.thr.length tc], .slice za zs.length zc] w fun e w' => ∃ v1 v2, e = .returned (.agg #[v1, v2]) ∧ w'.ownsRow w.heap.size 53 2 v1 ds.length (doneV ds) ∧ RacesAt w.heap.size w' v2 ((specRaces x ds ds.length).foldl insR []) ∧ Below w.heap.size w w' := by
 have hlit : Hid (∀ W, Below w.heap.size w W → Calls Tryz.prog 25 #[.agg #[.int .i64 x.vars, .int .i64 x.vol, .int .i64 x.locks, .slice ta x.thr.length tc]] W fun e w' => e = .returned (.bool true) ∧ Below W.heap.size W w') := fun W hW => by
  have h := implLit_calls x W [.int .i64 x.vars, .int .i64 x.vol, .int .i64 x.locks, .slice ta x.thr.length tc] lo hi (by have := hW.size; omega) ⟨_, rfl, hx.kept ThrR.stable (Nat.le_refl _) (Nat.le_refl _) ((Same.below hW).mono (Nat.zero_le _) hh)⟩ hs
  rw [hl] at h; exact h
 obtain ⟨ho, _, hf⟩ := lit_ok hl
 have hlen4 : (zs.take 4000).length = 4000 := by rw [List.length_take]; omega
 have hxH : Hid (∀ W, Below w.heap.size w W → ListAt ThrR 1 true lo hi W (.slice ta x.thr.length tc) x.thr) := fun W hW => hx.kept ThrR.stable (Nat.le_refl _) (Nat.le_refl _) ((Same.below hW).mono (Nat.zero_le _) hh)
 have hzH : Hid (∀ W, Below w.heap.size w W → ListAt IntR 1 true lo2 hi2 W (.slice za (zs.take 4000).length zc) (zs.take 4000)) := fun W hW => by
  have h1 := hz.kept IntR.stable (Nat.le_refl _) (Nat.le_refl _) ((Same.below hW).mono (Nat.zero_le _) hh2)
  have h2 := h1.take (m := 4000) (by omega); rw [hlen4]; exact h2
 have hzc : zs.length ≤ zc := hz.cap
 have hmi : (4000 : Int) < (zs.length : Int) := by omega
 have hm1 : (zs.length : Int) ≤ zc := by omega
 have hm2 : ((4000 : Nat) : Int) ≤ zc := by omega
 clear hx hz hs hl
 obtain ⟨W0, hW0⟩ : ∃ W0 : World, W0 = (w.alloc (.cells #[.int .i64 x.vars, .int .i64 x.vol, .int .i64 x.locks, .slice ta x.thr.length tc] 34)).alloc (.cells #[.slice none 0 0, .slice none 0 0] 30) := ⟨_, rfl⟩
 have hb0 : Hid (Below w.heap.size w W0) := by show Below _ _ _; rw [hW0]; exact below_on (below_1 _ _) (below_1 _ _)
 have hrow : W0.rangeAt w.heap.size 0 [.int .i64 x.vars, .int .i64 x.vol, .int .i64 x.locks, .slice ta x.thr.length tc] := by
  rw [hW0]; exact rangeAt_heap (by rw [Below.heap_alloc _ _ _ (by simp)]; exact heap_alloc_new _ _)
 have hth : Hid (W0.there (w.heap.size + 1) 0 2) := by
  show World.there _ _ _ _
  rw [hW0]
  have := there_heap (heap_alloc_new (w.alloc (.cells #[.int .i64 x.vars, .int .i64 x.vol, .int .i64 x.locks, .slice ta x.thr.length tc] 34)) (.cells #[.slice none 0 0, .slice none 0 0] 30))
  simpa using this
 have hsz : Hid (w.heap.size + 1 < W0.heap.size) := by show _ < _; rw [hW0]; simp
 have r0 := hrow 0 _ rfl
 have r1 := hrow 1 _ rfl
 have r2 := hrow 2 _ rfl
 have r3 := hrow 3 _ rfl
 simp only [Nat.zero_add] at r0 r1 r2 r3
 go_enter Tryz.func8, Tryz.ntmps8
 go_upto_region 1 with (fail)
 rw [← hW0]
 clear hW0 hrow
 go_upto_region 4 with (first
  | (go_at_call 25; refine (show Calls _ _ _ _ _ from hlit.out _ hb0.out).mono ?_; rintro e w1 ⟨rfl, hb1⟩; have hth1 : Hid (w1.there (w.heap.size + 1) 0 2) := (fun j hj => by rw [hb1.cell (p := ⟨w.heap.size + 1, 0 + j, none⟩) hsz.out, hb1.frozen (p := ⟨w.heap.size + 1, 0 + j, none⟩) hsz.out]; exact hth.out j hj); have r0 := (hb1.cell (p := ⟨w.heap.size, 0, none⟩) (show w.heap.size < _ by have := hsz.out; omega)).trans r0; have r1 := (hb1.cell (p := ⟨w.heap.size, 1, none⟩) (show w.heap.size < _ by have := hsz.out; omega)).trans r1; have r2 := (hb1.cell (p := ⟨w.heap.size, 2, none⟩) (show w.heap.size < _ by have := hsz.out; omega)).trans r2; have r3 := (hb1.cell (p := ⟨w.heap.size, 3, none⟩) (show w.heap.size < _ by have := hsz.out; omega)).trans r3))
 obtain ⟨P2, hP2⟩ : ∃ P2, P2 = w1.heap.size := ⟨_, rfl⟩
 obtain ⟨W2, hW2⟩ : ∃ W2 : World, W2 = w1.alloc (.cells #[.int .i64 x.vars, .int .i64 x.vol, .int .i64 x.locks, .slice ta x.thr.length tc, .bool false, .map none, .slice none 0 0] 67) := ⟨_, rfl⟩
 have hb2 : Hid (Below w.heap.size w W2) := by show Below _ _ _; rw [hW2]; exact below_on (below_on hb0.out hb1) (below_1 _ _)
 have hb12 : Below w1.heap.size w1 W2 := by rw [hW2]; exact below_1 _ _
 have hP1 : w.heap.size + 1 < w1.heap.size := Nat.lt_of_lt_of_le hsz.out hb1.size
 have hth2 : Hid (W2.there (w.heap.size + 1) 0 2) := fun j hj => by rw [hb12.cell (p := ⟨w.heap.size + 1, 0 + j, none⟩) hP1, hb12.frozen (p := ⟨w.heap.size + 1, 0 + j, none⟩) hP1]; exact hth1.out j hj
 have h7 : W2.rangeAt P2 0 [.int .i64 x.vars, .int .i64 x.vol, .int .i64 x.locks, .slice ta x.thr.length tc, .bool false, .map none, .slice none 0 0] := by rw [hW2, hP2]; exact rangeAt_heap (heap_alloc_new _ _)
 have hc5 : Hid (W2.rangeAt P2 0 [.int .i64 x.vars, .int .i64 x.vol, .int .i64 x.locks, .slice ta x.thr.length tc, .bool false]) := fun j v hj => h7 j v (by rcases j with _ | _ | _ | _ | _ | j <;> simp at hj ⊢ <;> exact hj)
 have hc4 : Hid (W2.rangeAt P2 0 [.int .i64 x.vars, .int .i64 x.vol, .int .i64 x.locks, .slice ta x.thr.length tc]) := fun j v hj => h7 j v (by rcases j with _ | _ | _ | _ | j <;> simp at hj ⊢ <;> exact hj)
 have hs2 : Hid (w.heap.size + 1 < P2 ∧ P2 < W2.heap.size) := by refine ⟨by omega, ?_⟩; rw [hW2, hP2]; simp
 rw [← hW2, ← hP2]
 have hfol : Hid (Calls Tryz.prog 26 #[.pointer (some ⟨P2, 0, none⟩), .slice za 4000 zc] W2 fun e w' => ∃ v, e = .returned v ∧ w'.ownsRow W2.heap.size 53 2 v ds.length (doneV ds) ∧ Below W2.heap.size W2 w') := by
  have hsb := hb2.out.size
  have h := follow_calls ho hf P2 ta tc za zc (zs.take 4000) W2 lo hi lo2 hi2 (by omega) (by omega) (hxH.out W2 hb2.out) (hzH.out W2 hb2.out) (by rw [List.length_take]; omega) hs2.out.2 hc5.out
  rw [← hds, hlen4] at h; exact h
 have hin : Hid (∀ d ∈ ds, ∃ a, actAt x d.t d.k = some a) := fun d hd => (runS_in ho _ _ (wf_start ho) d (hds ▸ hd)).2
 have hlen : Hid (ds.length ≤ 12) := by
  show _ ≤ _
  have := runS_len ho (zs.take 4000) _ (wf_start ho)
  rw [← hds] at this; omega
 have hnod : Hid ds.Nodup := by show List.Nodup _; rw [hds]; exact runS_nodup ho _ _ (wf_start ho)
 have hoH : Hid (OkL x) := ho
 have hinoH : Hid InOrd := hino
 have hsz2 : Hid (w.heap.size ≤ W2.heap.size) := hb2.out.size
 have hhH : Hid (hi ≤ w.heap.size) := hh
 clear hds ho hf hino hzH hlen4 hh hh2
 clear hW2 hP2 hb12 h7 hth1 hth hb0 hb1 hsz hP1 r0 r1 r2 r3 hlit
 obtain ⟨n, hn⟩ : ∃ n, n = ds.length := ⟨_, rfl⟩
 have hnH : Hid (n = ds.length) := hn
 rw [← hn] at hfol
 clear hn
 go_wp2_with (first
  | (go_at_call 26; refine (show Calls _ _ _ _ _ from hfol.out).mono ?_; rintro e w3 ⟨v, rfl, hv3, hb3⟩; obtain ⟨da, dc, rfl⟩ := own_form hv3; obtain ⟨hah, hrst⟩ := ordRest hoH.out hinoH.out ds n hnH.out hlen.out hin.out hnod.out P2 ta tc da dc w W2 w3 lo hi hhH.out hsz2.out hxH.out hb2.out hc4.out hs2.out.2 hs2.out.1 hth2.out hv3 hb3; clear hv3 hb3 hxH hc4 hc5 hth2 hin hnod hoH hinoH)
  | (go_at_call 27; refine (show Calls _ _ _ _ _ from hah.out).mono ?_; rintro e w4 ⟨us, rfl, hA, hS⟩; have hrc := hrst.out us w4 hA hS; clear hA hS hrst)
  | (go_at_call 30; refine (show Calls _ _ _ _ _ from hrc.out).mono ?_; rintro e w6 ⟨ra, rn, rc, rfl, h6⟩)
  | (go_at_call 29; refine (show Calls _ _ _ _ _ from h6.out).mono ?_; rintro e w7 ⟨rfl, h7⟩; have hth7 := h7.out.1)
  | (refine wpList_store_mid rfl 30 _ _ rfl (w.heap.size + 1) 0 #[.slice da n dc, .slice ra rn rc] rfl rfl hth7 (by kernel_rfl) (all_oneCell_toArray (cs := [.slice da n dc, .slice ra rn rc]) h7.out.2.1) ?_))
 refine bodyPost_ret (v := .agg #[.slice da n dc, .slice ra rn rc]) (results_cell_mid rfl _ _ (w.heap.size + 1) [.slice da n dc, .slice ra rn rc] _ rfl (World.rangeAt_setCells_same w7 (w.heap.size + 1) 0 [.slice da n dc, .slice ra rn rc] hth7) Tryz.underlying30 rfl (by kernel_rfl)) rfl ?_
 refine ⟨_, _, rfl, ?_⟩
 have := h7.out.2.2
 rw [hnH.out] at this ⊢
 exact this
end Go.Proofs.YtknbchheoloaoaaGreat
