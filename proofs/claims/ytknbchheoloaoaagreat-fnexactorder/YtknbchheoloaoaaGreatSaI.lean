/- The program's question whether two acts are apart. -/
import Derived.Test.YtknbchheoloaoaaGreatSaH
namespace Go.Proofs.YtknbchheoloaoaaGreat
set_option linter.unusedVariables false
open Go.ChangeShapes Go.WideShapes Go.ChangeAt Go.RowKit
theorem and_two_pow_zero (u f : Nat) : (((u &&& 2 ^ f : Nat) : Int) == 0) = !u.testBit f := by
 cases h : u.testBit f with
 | false =>
  have : u &&& 2 ^ f = 0 := by
   apply Nat.eq_of_testBit_eq
   intro j
   rw [Nat.testBit_and, Nat.testBit_two_pow, Nat.zero_testBit]
   by_cases e : f = j
   ·subst e; simp [h]
   ·simp [e]
  rw [this]; rfl
 | true =>
  have : u &&& 2 ^ f ≠ 0 := fun q => by
   have := congrArg (fun z => z.testBit f) q
   simp [Nat.testBit_and, h] at this
  simpa using this
set_option maxRecDepth 1000000 in
set_option maxHeartbeats 2000000 in
theorem apart_calls (f k n O V u : Nat) (w : World) (hf : f < 64) (hk : k < n) (hn : n ≤ 64) (hu : u < 18446744073709551616) (hV : V < w.heap.size) (hO : O < w.heap.size) (hc : w.cell? ⟨V, 0, none⟩ = some (.slice (some ⟨O, 0, none⟩) n n)) (hcu : w.cell? ⟨O, k, none⟩ = some (.int .u64 (u : Int))) :
  Calls Tryz.prog 28 #[.int .i64 (f : Int), .int .i64 (k : Int), .pointer (some ⟨V, 0, none⟩)] w fun e w' => e = .returned (.bool (!u.testBit f)) ∧ Below w.heap.size w w' := by
 obtain ⟨p2, hpe⟩ : ∃ p2, p2 = 2 ^ f := ⟨_, rfl⟩
 obtain ⟨c, hce⟩ : ∃ c, c = u &&& p2 := ⟨_, rfl⟩
 obtain ⟨r, hre⟩ : ∃ r, r = !u.testBit f := ⟨_, rfl⟩
 have hp64 : p2 < 18446744073709551616 := by rw [hpe]; exact Nat.lt_of_lt_of_le (Nat.pow_lt_pow_right (by decide) (show f < 64 by omega)) (by decide)
 have ho1 : Hid (bits .and .u64 (u : Int) (p2 : Int) = (c : Int)) := by show _ = _; rw [hce]; exact u64_and_nat u p2 hu hp64
 have hp2 : Hid ((2 : Int) ^ f = (p2 : Int)) := by show _ = _; rw [hpe]; simp
 have hwp : Hid (IntKind.u64.wrap (p2 : Int) = (p2 : Int)) := by show _ = _; rw [IntKind.wrap_u64]; omega
 have hr : Hid (((c : Int) == 0) = r) := by show _ = _; rw [hre, hce, hpe]; exact and_two_pow_zero u f
 have hR : Hid ((!u.testBit f) = r) := hre.symm
 have hcell : Hid (∀ W, Below w.heap.size w W → W.cell? ⟨V, 0, none⟩ = some (.slice (some ⟨O, 0, none⟩) n n) ∧ W.cell? ⟨O, k, none⟩ = some (.int .u64 (u : Int))) := fun W hB => ⟨(hB.cell (p := ⟨V, 0, none⟩) hV).trans hc, (hB.cell (p := ⟨O, k, none⟩) hO).trans hcu⟩
 have hk' : (k : Int) < (n : Int) := by omega
 have hk0 : (0 : Int) ≤ k := by omega
 have hf0 : (0 : Int) ≤ f := by omega
 have hf64 : (f : Int) < 64 := by omega
 clear hre hpe hce hp64 hc hcu
 go_enter Tryz.func28, Tryz.ntmps28
 go_wp2_with fail
 refine wp_region_own (by kernel_rfl) (fun vs => { tmps := #[.int .i64 (f : Int), .int .i64 (k : Int), .pointer (some ⟨V, 0, none⟩), undef, undef, vs 8, vs 0, vs 1, vs 2, vs 3, vs 4, vs 5, vs 6, vs 7], defers := [] }) (lv [.slice (some ⟨O, 0, none⟩) n n, .int .i64 (k : Int), .pointer (some ⟨O, k, none⟩), .int .u64 (u : Int), .int .i64 (f : Int), .int .u64 (p2 : Int), .int .u64 (c : Int), .bool r, .bool r]) (fun i => if i = 8 then .bool false else undef) rfl (fun _ _ _ _ _ _ _ _ h => h) (allAt_all ⟨?_, ?_, ?_, ?_, ?_, ?_, ?_, ?_, ?_, trivial⟩) ?_ (regForward_done (by kernel_rfl))
 case refine_1 =>
  intro vs lo hi W hB hv
  obtain ⟨u1, u2⟩ := hcell.out W hB
  clear hv
  go_wp2
  exact ⟨.slice (some ⟨O, 0, none⟩) n n, by rfl, Below.refl _ _, rfl⟩
 case refine_2 =>
  intro vs lo hi W hB hv
  clear hv
  go_wp2
  exact ⟨.int .i64 (k : Int), by rfl, Below.refl _ _, rfl⟩
 case refine_3 =>
  intro vs lo hi W hB hv
  have e0 : vs 0 = .slice (some ⟨O, 0, none⟩) n n := ((hv ⟨0, .data⟩ (by simp) rfl).1)
  have e1 : vs 1 = .int .i64 (k : Int) := ((hv ⟨1, .data⟩ (by simp) rfl).1)
  clear hv
  simp only [e0, e1]
  go_wp2
  exact ⟨.pointer (some ⟨O, k, none⟩), by simp [upd, e0, e1], Below.refl _ _, rfl⟩
 case refine_4 =>
  intro vs lo hi W hB hv
  have e2 : vs 2 = .pointer (some ⟨O, k, none⟩) := ((hv ⟨2, .data⟩ (by simp) rfl).1)
  obtain ⟨u1, u2⟩ := hcell.out W hB
  clear hv
  simp only [e2]
  go_wp2
  exact ⟨.int .u64 (u : Int), by first | (rw [← e2]; rfl) | (simp [upd, e2]), Below.refl _ _, rfl⟩
 case refine_5 =>
  intro vs lo hi W hB hv
  clear hv
  go_wp2
  exact ⟨.int .i64 (f : Int), by rfl, Below.refl _ _, rfl⟩
 case refine_6 =>
  intro vs lo hi W hB hv
  have e4 : vs 4 = .int .i64 (f : Int) := ((hv ⟨4, .data⟩ (by simp) rfl).1)
  clear hv
  simp only [e4]
  go_wp2; rw [show (2 : Int) ^ f = (p2 : Int) from hp2.out, show IntKind.u64.wrap (p2 : Int) = (p2 : Int) from hwp.out]
  exact ⟨.int .u64 (p2 : Int), by simp [upd, e4], Below.refl _ _, rfl⟩
 case refine_7 =>
  intro vs lo hi W hB hv
  have e3 : vs 3 = .int .u64 (u : Int) := ((hv ⟨3, .data⟩ (by simp) rfl).1)
  have e5 : vs 5 = .int .u64 (p2 : Int) := ((hv ⟨5, .data⟩ (by simp) rfl).1)
  have hbo := ho1.out
  clear hv
  simp only [e3, e5]
  go_wp2
  exact ⟨.int .u64 (c : Int), by first | (rw [← e3, ← e5]; rfl) | (simp [upd, e3, e5]), Below.refl _ _, rfl⟩
 case refine_8 =>
  intro vs lo hi W hB hv
  have e6 : vs 6 = .int .u64 (c : Int) := ((hv ⟨6, .data⟩ (by simp) rfl).1)
  have hrr := hr.out
  clear hv
  simp only [e6]
  go_wp2
  exact ⟨.bool r, by first | (rw [← e6]; rfl) | (simp [upd, e6]), Below.refl _ _, rfl⟩
 case refine_9 =>
  intro vs lo hi W hB hv
  have e7 : vs 7 = .bool r := ((hv ⟨7, .data⟩ (by simp) rfl).1)
  clear hv
  simp only [e7]
  go_wp2
  exact ⟨.bool r, by simp [upd, e7], Below.refl _ _, rfl⟩
 case refine_10 =>
  intro vs lo hi W hB hv _ _
  have e0 : vs 0 = .slice (some ⟨O, 0, none⟩) n n := (hv 0 (by simp))
  have e1 : vs 1 = .int .i64 (k : Int) := (hv 1 (by simp))
  have e2 : vs 2 = .pointer (some ⟨O, k, none⟩) := (hv 2 (by simp))
  have e3 : vs 3 = .int .u64 (u : Int) := (hv 3 (by simp))
  have e4 : vs 4 = .int .i64 (f : Int) := (hv 4 (by simp))
  have e5 : vs 5 = .int .u64 (p2 : Int) := (hv 5 (by simp))
  have e6 : vs 6 = .int .u64 (c : Int) := (hv 6 (by simp))
  have e7 : vs 7 = .bool r := (hv 7 (by simp))
  have e8 : vs 8 = .bool r := (hv 8 (by simp))
  clear hv
  simp only [e0, e1, e2, e3, e4, e5, e6, e7, e8]
  have hfin : Hid (Below w.heap.size w W) := hB
  clear hB e0 e1 e2 e3 e4 e5 e6 e7 e8
  go_wp2
  go_ret
  exact ⟨by rw [hR.out]; rfl, hfin.out⟩
end Go.Proofs.YtknbchheoloaoaaGreat

/- The program's races: course.races. -/
namespace Go.Proofs.YtknbchheoloaoaaGreat
set_option linter.unusedVariables false
open Go.ChangeShapes Go.WideShapes Go.ChangeAt Go.RowKit
theorem elemRc : ∃ i, Tryz.prog.info? 89 = some i ∧ i.zero = some (.agg #[.int .i64 0, .int .i64 0, .int .i64 0, .int .i64 0]) ∧ i.size = 4 ∧ i.bytes = 32 := by
 obtain ⟨i0, hi0⟩ : ∃ i, Tryz.prog.info? 89 = some i := Option.isSome_iff_exists.1 (by kernel_rfl)
 have hz : (Tryz.prog.info? 89).bind (·.zero) = some (.agg #[.int .i64 0, .int .i64 0, .int .i64 0, .int .i64 0]) := by kernel_rfl
 refine ⟨i0, hi0, ?_, ?_, ?_⟩
 ·rw [hi0] at hz; exact hz
 ·have : (Tryz.prog.info? 89).map (·.size) = some 4 := by kernel_rfl
  rw [hi0] at this; exact Option.some.inj this
 ·have : (Tryz.prog.info? 89).map (·.bytes) = some 32 := by kernel_rfl
  rw [hi0] at this; exact Option.some.inj this
theorem cell_newN (w : World) (cs : List Value) (t : TypeId) : ∀ j u, cs[j]? = some u → (w.alloc (.cells cs.toArray t)).cell? ((⟨w.heap.size, 0, none⟩ : Addr).add j) = some u := fun j u hu => by
 have e := heap_alloc_new w (.cells cs.toArray t)
 rw [Addr.add_mid]
 exact rangeAt_heap e j u (by simpa using hu)
structure RcsW (w wr : World) (B1 : Nat) (v : Value) (rs : List RaceL) (q : DoneL) : Prop where
 hb : Below w.heap.size w wr
 own : RacesAt w.heap.size wr v rs
 box : BoxD w wr B1 q
 ne : v.ownBlock ≠ some B1
theorem RcsW.on {w wr w' : World} {B1 : Nat} {v : Value} {rs : List RaceL} {q : DoneL} (h : RcsW w wr B1 v rs q) (hb : Below wr.heap.size wr w') : RcsW w w' B1 v rs q :=
 ⟨below_on h.hb hb, h.own.below hb, h.box.on hb, h.ne⟩
theorem RcsW.app {w wr w' : World} {B1 : Nat} {v v' : Value} {rs : List RaceL} {q : DoneL} {r : RaceL} (h : RcsW w wr B1 v rs q) (h1 : w'.ownsRow w.heap.size 89 4 v' (rs.length + 1) (racesC rs ++ r.v)) (hg : wr.grownBy w' v.ownBlock) (h4 : v'.ownBlock = v.ownBlock ∨ v'.ownBlock = some wr.heap.size) : RcsW w w' B1 v' (rs ++ [r]) q := by
 have e := hg.block B1 h.box.hi (fun e => h.ne e.symm)
 refine ⟨h.hb.grown hg h.hb.size (fun k e => (World.ownsRow.lt h.own k e).1), ?_, ⟨(World.cell?_of_block (w := wr) (a := ⟨B1, 0, none⟩) e).trans h.box.c0, (World.cell?_of_block (w := wr) (a := ⟨B1, 1, none⟩) e).trans h.box.c1, Nat.lt_of_lt_of_le h.box.hi hg.size⟩, ?_⟩
 ·unfold RacesAt
  rw [racesC_append, racesC_one, List.length_append]; exact h1
 ·rcases h4 with h4 | h4
  ·rw [h4]; exact h.ne
  ·rw [h4]; intro q; have := h.box.hi; cases q; omega
theorem colRaces_snoc (x : LitL) (ds : List DoneL) (k f : Nat) : colRaces x ds k (f + 1) = colRaces x ds k f ++ raceAt x ds f k := by
 simp [colRaces, List.range_succ]
theorem implRaces_snoc (x : LitL) (ds : List DoneL) (k : Nat) : implRaces x ds (k + 1) = implRaces x ds k ++ colRaces x ds k k := by
 simp [implRaces, List.range_succ]
theorem raceAt_le (x : LitL) (ds : List DoneL) (i k : Nat) : (raceAt x ds i k).length ≤ 1 := by
 unfold raceAt
 split
 ·split <;> simp
 ·simp
set_option maxRecDepth 1000000 in
set_option maxHeartbeats 8000000 in
theorem races_calls {x : LitL} (ho : OkL x) (g V : Nat) (ta : Option Addr) (tc : Nat) (da : Option Addr) (dc : Nat) (ds : List DoneL) (w : World) (lo hi : Nat) (hh : hi ≤ w.heap.size) (hx : ListAt ThrR 1 true lo hi w (.slice ta x.thr.length tc) x.thr) (hd : DoneAt w da ds) (hdl : ds.length ≤ 64) (hdc : ds.length ≤ dc) (hin : ∀ d ∈ ds, ∃ a, actAt x d.t d.k = some a) (hg : g < w.heap.size) (hc : w.rangeAt g 0 [.int .i64 x.vars, .int .i64 x.vol, .int .i64 x.locks, .slice ta x.thr.length tc])
  (hsu : ∀ f k, f < k → k < ds.length → ∀ W, Below w.heap.size w W → Calls Tryz.prog 28 #[.int .i64 (f : Int), .int .i64 (k : Int), .pointer (some ⟨V, 0, none⟩)] W fun e w' => e = .returned (.bool (!pthB (edgeE x ds) f k)) ∧ Below W.heap.size W w') :
  Calls Tryz.prog 30 #[.pointer (some ⟨g, 0, none⟩), .slice da ds.length dc, .func (.func 28) #[] #[.pointer (some ⟨V, 0, none⟩)]] w fun e w' => ∃ v, e = .returned v ∧ RacesAt w.heap.size w' v (implRaces x ds ds.length) ∧ Below w.heap.size w w' := by
 obtain ⟨i2, hi2', hz2, hs2, hbb2⟩ := elemRc
 have hdH : Hid (∀ W, Below w.heap.size w W → DoneAt W da ds) := fun W hW => hd.on hW
 have hconf : Hid (∀ f k (hf : f < ds.length) (hk : k < ds.length) W, Below w.heap.size w W → Calls Tryz.prog 58 #[.pointer (some ⟨g, 0, none⟩), .agg #[.int .i64 (ds[f].t : Int), .int .i64 (ds[f].k : Int)], .agg #[.int .i64 (ds[k].t : Int), .int .i64 (ds[k].k : Int)]] W fun e w' => e = .returned (.bool (raceC x ds[f] ds[k])) ∧ Below W.heap.size W w') := fun f k hf hk W hW => by
  obtain ⟨a, ha⟩ := hin _ (List.getElem_mem hf)
  obtain ⟨b, hb⟩ := hin _ (List.getElem_mem hk)
  have kk : ∀ (d : DoneL) (y : ActL), actAt x d.t d.k = some y → y.kind = 1 ∨ y.kind = 2 ∨ y.kind = 3 ∨ y.kind = 4 ∨ y.kind = 5 := fun d y hy => by
   obtain ⟨acts, e1, e2⟩ := actAt_some hy
   exact (actC_var (ho.act acts (List.mem_of_getElem? e1) y (List.mem_of_getElem? e2))).2.2
  have hs := hW.size
  exact cconf_calls x _ _ a b g ta tc W lo hi (by omega) (hx.kept ThrR.stable (Nat.le_refl _) (Nat.le_refl _) ((Same.below hW).mono (Nat.zero_le _) hh)) (by omega) (fun j v hj => (hW.cell (p := ⟨g, 0 + j, none⟩) hg).trans (hc j v hj)) ha hb (kk _ _ ha) (kk _ _ hb)
 have hsuH : Hid (∀ f k, f < k → k < ds.length → ∀ W, Below w.heap.size w W → Calls Tryz.prog 28 #[.int .i64 (f : Int), .int .i64 (k : Int), .pointer (some ⟨V, 0, none⟩)] W fun e w' => e = .returned (.bool (!pthB (edgeE x ds) f k)) ∧ Below W.heap.size W w') := hsu
 have hdl' : (ds.length : Int) ≤ 64 := by omega
 have hdc' : (ds.length : Int) ≤ dc := by omega
 obtain ⟨n, hn⟩ : ∃ n, n = ds.length := ⟨_, rfl⟩
 have hnH : Hid (n = ds.length) := hn
 rw [← hn] at hdl hdl' hdc hdc' ⊢
 clear hx hd hc hin hh hn hsu ho
 go_enter Tryz.func30, Tryz.ntmps30
 go_wp2_with fail
 go_loopw [7, 14] (fun v i wr => ∃ (k : Nat), k ≤ n ∧ i = .int .i64 k ∧ Hid (Below w.heap.size w wr ∧ RacesAt w.heap.size wr v (implRaces x ds k) ∧ (implRaces x ds k).length ≤ k * 64)) (fun _ i _ => n - (intOf i).toNat)
 case atStart => exact ⟨0, Nat.zero_le _, rfl, Below.refl _ _, ⟨rfl, .inl ⟨rfl, rfl⟩⟩, by simp [implRaces]⟩
 case round =>
  obtain ⟨k, hk, rfl, hA⟩ := hrel
  obtain ⟨va, vc, rfl⟩ := own_form hA.out.2.1
  by_cases hlt : k < n
  ·have hlt' : (k : Int) < (n : Int) := by omega
   have hkd : k < ds.length := by rw [← hnH.out]; exact hlt
   obtain ⟨db, rfl, hdb, d0, d1⟩ := hdH.out wr hA.out.1 k hkd
   have hk0 : (0 : Int) ≤ k := by omega
   have hkc : (k : Int) ≤ dc := by omega
   obtain ⟨q, hq⟩ : ∃ q, q = ds[k] := ⟨_, rfl⟩
   have hqH : Hid (q = ds[k]) := hq
   rw [← hq] at d0 d1
   clear hq
   have hA1 : Hid (RcsW w (wr.alloc (.cells #[.int .i64 (q.t : Int), .int .i64 (q.k : Int)] 53)) wr.heap.size (.slice va (implRaces x ds k).length vc) (implRaces x ds k) q) := ⟨below_on hA.out.1 (below_1 _ _), hA.out.2.1.below (below_1 _ _), BoxD.new w wr _ _, fun e => by have := (World.ownsRow.lt hA.out.2.1 _ e).2; omega⟩
   have hln : Hid ((implRaces x ds k).length ≤ k * 64) := hA.out.2.2
   clear hA
   generalize hls : Value.slice va (implRaces x ds k).length vc = sl at *
   clear hls
   go_wp2_with fail
   clear d0 d1
   generalize wr.alloc (.cells #[.int .i64 (q.t : Int), .int .i64 (q.k : Int)] 53) = W1 at *
   generalize wr.heap.size = B1 at *
   go_loopw [7, 23] (fun v i w2 => ∃ (f : Nat) (rs : List RaceL), f ≤ k ∧ i = .int .i64 f ∧ Hid (RcsW w w2 B1 v rs q) ∧ Hid (rs = implRaces x ds k ++ colRaces x ds k f ∧ rs.length ≤ k * 64 + f)) (fun _ i _ => k - (intOf i).toNat)
   case atStart => exact ⟨0, _, Nat.zero_le _, rfl, hA1, by simp [colRaces], by have := hln.out; omega⟩
   case round =>
    rename World => w2
    clear hA1 hln
    obtain ⟨f, rs, hf, rfl, hA, hrs⟩ := hrel
    obtain ⟨va', vc', rfl⟩ := own_form hA.out.own
    by_cases hlt2 : f < k
    ·have hlt2' : (f : Int) < (k : Int) := by omega
     have hfd : f < ds.length := by rw [← hnH.out]; omega
     obtain ⟨db', hdb', _, d0, d1⟩ := hdH.out w2 hA.out.hb f hfd
     cases hdb'
     have hf0 : (0 : Int) ≤ f := by omega
     have hfc : (f : Int) ≤ dc := by omega
     have hcf := hconf.out f k hfd hkd
     have hst : Hid (colRaces x ds k (f + 1) = colRaces x ds k f ++ (if (raceC x ds[f] q && !pthB (edgeE x ds) f k) = true then [raceD ds[f] q] else [])) := by
      show _ = _
      rw [colRaces_snoc, raceAt, List.getElem?_eq_getElem hfd, List.getElem?_eq_getElem hkd, hqH.out]
     rw [← hqH.out] at hcf
     have hcH : Hid (∀ W, Below w.heap.size w W → Calls Tryz.prog 58 #[.pointer (some ⟨g, 0, none⟩), .agg #[.int .i64 (ds[f].t : Int), .int .i64 (ds[f].k : Int)], .agg #[.int .i64 (q.t : Int), .int .i64 (q.k : Int)]] W fun e w' => e = .returned (.bool (raceC x ds[f] q)) ∧ Below W.heap.size W w') := hcf
     have hsH : Hid (∀ W, Below w.heap.size w W → Calls Tryz.prog 28 #[.int .i64 (f : Int), .int .i64 (k : Int), .pointer (some ⟨V, 0, none⟩)] W fun e w' => e = .returned (.bool (!pthB (edgeE x ds) f k)) ∧ Below W.heap.size W w') := hsuH.out f k hlt2 hkd
     clear hcf
     generalize ds[f] = p at *
     generalize hcr : raceC x p q = cr at *
     generalize hap : (!pthB (edgeE x ds) f k) = ap at *
     clear hcr hap
     have hA3 : Hid (RcsW w (w2.alloc (.cells #[.int .i64 (p.t : Int), .int .i64 (p.k : Int)] 53)) B1 (.slice va' rs.length vc') rs q) := hA.out.on (below_1 _ _)
     have hp3 : Hid (BoxD w (w2.alloc (.cells #[.int .i64 (p.t : Int), .int .i64 (p.k : Int)] 53)) w2.heap.size p) := BoxD.new w w2 _ _
     obtain ⟨ln, hln⟩ : ∃ ln, ln = rs.length := ⟨_, rfl⟩
     have hlnH : Hid (ln = rs.length) := hln
     rw [← hln] at hA3 ⊢
     have hlb : ln ≤ 5000 := by have := hrs.out.2; omega
     clear hln
     go_upto_region 8 with (fail)
     clear hA d0 d1
     generalize w2.alloc (.cells #[.int .i64 (p.t : Int), .int .i64 (p.k : Int)] 53) = W3 at *
     generalize w2.heap.size = B2 at *
     obtain ⟨q0, q1, _⟩ := hA3.out.box
     obtain ⟨p0, p1, _⟩ := hp3.out
     have hc3 := hcH.out W3 hA3.out.hb
     have hc3H : Hid (Calls Tryz.prog 58 #[.pointer (some ⟨g, 0, none⟩), .agg #[.int .i64 (p.t : Int), .int .i64 (p.k : Int)], .agg #[.int .i64 (q.t : Int), .int .i64 (q.k : Int)]] W3 fun e w' => e = .returned (.bool cr) ∧ Below W3.heap.size W3 w') := hc3
     clear hc3 hcH
     cases cr with
     | false =>
      have hr2 : Hid (rs = implRaces x ds k ++ colRaces x ds k (f + 1) ∧ rs.length ≤ k * 64 + (f + 1)) := by
       refine ⟨?_, by have := hrs.out.2; omega⟩
       rw [hst.out]; simpa using hrs.out.1
      clear hst hrs
      go_wp2_with (first | (go_at_call 58; refine (show Calls _ _ _ _ _ from hc3H.out).mono ?_; rintro e w4 ⟨rfl, hb4⟩))
      go_roundw
      case rel => exact ⟨f + 1, rs, by omega, by go_num, hA3.out.on hb4, hr2⟩
      case measure => simp [intOf]; omega
     | true =>
      cases ap with
      | false =>
       have hr2 : Hid (rs = implRaces x ds k ++ colRaces x ds k (f + 1) ∧ rs.length ≤ k * 64 + (f + 1)) := by
        refine ⟨?_, by have := hrs.out.2; omega⟩
        rw [hst.out]; simpa using hrs.out.1
       clear hst hrs
       go_wp2_with (first
        | (go_at_call 58; refine (show Calls _ _ _ _ _ from hc3H.out).mono ?_; rintro e w4 ⟨rfl, hb4⟩; have hA4 : Hid (RcsW w w4 B1 (.slice va' ln vc') rs q) := hA3.out.on hb4; clear hb4)
        | (go_at_call 28; refine (show Calls _ _ _ _ _ from hsH.out _ hA4.out.hb).mono ?_; rintro e w5 ⟨rfl, hb5⟩))
       go_roundw
       case rel => exact ⟨f + 1, rs, by omega, by go_num, hA4.out.on hb5, hr2⟩
       case measure => simp [intOf]; omega
      | true =>
       have hr2 : Hid (rs ++ [raceD p q] = implRaces x ds k ++ colRaces x ds k (f + 1) ∧ (rs ++ [raceD p q]).length ≤ k * 64 + (f + 1)) := by
        refine ⟨?_, by have := hrs.out.2; simp; omega⟩
        rw [hst.out]; simp [← List.append_assoc, ← hrs.out.1]
       clear hst hrs
       go_upto_region 9 with (first
        | (go_at_call 58; refine (show Calls _ _ _ _ _ from hc3H.out).mono ?_; rintro e w4 ⟨rfl, hb4⟩; have hA4 : Hid (RcsW w w4 B1 (.slice va' ln vc') rs q) := hA3.out.on hb4; have hp4 : Hid (BoxD w w4 B2 p) := hp3.out.on hb4; clear hb4)
        | (go_at_call 28; refine (show Calls _ _ _ _ _ from hsH.out _ hA4.out.hb).mono ?_; rintro e w5 ⟨rfl, hb5⟩; have hA5 : Hid (RcsW w w5 B1 (.slice va' ln vc') rs q) := hA4.out.on hb5; have hp5 : Hid (BoxD w w5 B2 p) := hp4.out.on hb5; clear hb5))
       clear q0 q1 p0 p1
       obtain ⟨q0, q1, _⟩ := hA5.out.box
       obtain ⟨p0, p1, _⟩ := hp5.out
       have hro : Hid (Calls Tryz.prog 59 #[.agg #[.int .i64 (p.t : Int), .int .i64 (p.k : Int)], .agg #[.int .i64 (q.t : Int), .int .i64 (q.k : Int)]] w5 fun e w' => e = .returned (.agg #[.int .i64 (raceD p q).t, .int .i64 (raceD p q).a, .int .i64 (raceD p q).u, .int .i64 (raceD p q).b]) ∧ Below w5.heap.size w5 w') := raceOf_calls p.t p.k q.t q.k w5
       obtain ⟨r, hre⟩ : ∃ r, r = raceD p q := ⟨_, rfl⟩
       rw [← hre] at hro hr2
       clear hre
       go_wp2_with (first
        | (go_at_call 59; refine (show Calls _ _ _ _ _ from hro.out).mono ?_; rintro e w6 ⟨rfl, hb6⟩; have hA6 : Hid (RcsW w (w6.alloc (.cells #[.int .i64 r.t, .int .i64 r.a, .int .i64 r.u, .int .i64 r.b] 89)) B1 (.slice va' ln vc') rs q) := (hA5.out.on hb6).on (below_1 _ _); clear hb6)
        | (refine wpList_append_own_at _ rfl (.tmp 38) (.tmp 42) 28 rfl w.heap.size 89 i2 (.agg #[.int .i64 0, .int .i64 0, .int .i64 0, .int .i64 0]) 4 32 Tryz.underlying28 hi2' hz2 hs2 hbb2 rfl (by omega) _ ln (racesC rs) rfl (by have := hA6.out.own; unfold RacesAt at this; rw [← hlnH.out] at this; exact this) ⟨_, 0, none⟩ 1 1 [.int .i64 r.t, .int .i64 r.a, .int .i64 r.u, .int .i64 r.b] rfl rfl (cell_newN _ [.int .i64 r.t, .int .i64 r.a, .int .i64 r.u, .int .i64 r.b] _) (by simp [Value.oneCell']) (by unfold maxLen; omega) (by omega) hA6.out.hb.size ?_; intro v' w7 h1 h2 h3 h4; have hA7 : Hid (RcsW w w7 B1 v' (rs ++ [r]) q) := hA6.out.app (r := r) (by rw [← hlnH.out]; exact h1) h2 h4; clear h1 h2 h3 h4))
       go_roundw
       case rel => exact ⟨f + 1, _, by omega, by go_num, hA7, hr2⟩
       case measure => simp [intOf]; omega
    ·have hfk : f = k := by omega
     subst hfk
     have hr2 : Hid (rs = implRaces x ds (f + 1) ∧ rs.length ≤ (f + 1) * 64) := ⟨by rw [implRaces_snoc]; exact hrs.out.1, by have := hrs.out.2; omega⟩
     go_wp2
     go_roundw
     case rel => exact ⟨f + 1, by omega, by go_num, hA.out.hb, by rw [← hr2.out.1]; exact hA.out.own, by rw [← hr2.out.1]; exact hr2.out.2⟩
     case measure => simp [intOf]; omega
  ·have hke : k = n := by omega
   subst hke
   go_wp2
   go_ret
   exact ⟨_, rfl, hA.out.2.1, hA.out.1⟩
end Go.Proofs.YtknbchheoloaoaaGreat

/- The program's Order, over a contract of inOrder. -/
namespace Go.Proofs.YtknbchheoloaoaaGreat
set_option linter.unusedVariables false
open Go.ChangeShapes Go.WideShapes Go.ChangeAt Go.RowKit
theorem doneV_get : ∀ (ds : List DoneL) (k : Nat) (h : k < ds.length), (doneV ds)[k * 2]? = some (.int .i64 (ds[k].t : Int)) ∧ (doneV ds)[k * 2 + 1]? = some (.int .i64 (ds[k].k : Int))
 | [], k, h => by simp at h
 | d :: l, 0, h => by simp [doneV]
 | d :: l, k + 1, h => by
  have := doneV_get l k (by simpa using h)
  have h1 : (k + 1) * 2 = k * 2 + 2 := by omega
  rw [h1]
  simpa [doneV] using this
theorem doneV_length (ds : List DoneL) : (doneV ds).length = ds.length * 2 := by
 induction ds with
 | nil => rfl
 | cons e l ih => simp only [doneV, List.flatMap_cons, List.length_append, List.length_cons, List.length_nil] at ih ⊢; omega
theorem doneAt_of {w : World} {B : Nat} {da : Option Addr} {n dc : Nat} {ds : List DoneL} (h : w.ownsRow B 53 2 (.slice da n dc) ds.length (doneV ds)) : n = ds.length ∧ n ≤ dc ∧ DoneAt w da ds := by
 have hn : n = ds.length := by obtain ⟨a', c', e⟩ := own_form h; injection e
 subst hn
 refine ⟨rfl, ?_, fun k hk => ?_⟩
 ·rcases h.2 with ⟨e, h2⟩ | ⟨g, cap, cur, e, _, _, h5, _⟩
  ·omega
  ·injection e with e1 e2 e3; omega
 ·rcases h.2 with ⟨e, h2⟩ | ⟨g, cap, cur, e, _, _, h5, _⟩
  ·omega
  ·injection e with e1 e2 e3
   subst e1; subst e3
   have hl := doneV_length ds
   refine ⟨g, rfl, (World.ownsRow.lt h g rfl).2, ?_, ?_⟩
   ·rw [World.ownsRow.cellAt h (k * 2) (by omega)]; exact (doneV_get ds k hk).1
   ·rw [World.ownsRow.cellAt h (k * 2 + 1) (by omega)]; exact (doneV_get ds k hk).2
theorem pcOf_le {x : LitL} {s : S11} (ho : OkL x) (hw : Wf x s) (t : Nat) : pcOf s t ≤ 4 := by
 by_cases h : t < x.thr.length
 ·exact (Wf.pc ho hw h).1
 ·have h1 : s.pcs.length ≤ t := by rw [hw.lp]; omega
  unfold pcOf
  rw [List.getD_eq_getElem?_getD, List.getElem?_eq_none h1]
  simp
theorem runS_len {x : LitL} (ho : OkL x) : ∀ (zs : List Int) (s : S11), Wf x s → (runS x s zs).length + (pcOf s 0 + pcOf s 1 + pcOf s 2) ≤ 12
 | [], s, hw => by
  have h0 := pcOf_le ho hw 0
  have h1 := pcOf_le ho hw 1
  have h2 := pcOf_le ho hw 2
  simp only [runS, List.length_nil]; omega
 | z :: zs, s, hw => by
  rw [runS]
  cases hp : pickS x s z with
  | none => exact runS_len ho zs s hw
  | some a =>
   obtain ⟨h1, h2, h3⟩ := pickS_some hp
   have hn := ho.n1
   have ih := runS_len ho zs _ (wf_act ho hw h2)
   obtain ⟨t, rfl⟩ : ∃ t : Nat, z = t := ⟨z.toNat, by omega⟩
   have ht : t < x.thr.length := by omega
   have e : ∀ u, pcOf (actS s t a) u = if u = t then pcOf s t + 1 else pcOf s u := pcOf_act hw ht a
   rw [show (t : Int).toNat = t from rfl] at ih ⊢
   rw [e 0, e 1, e 2] at ih
   simp only [List.length_cons]
   have h3 : t = 0 ∨ t = 1 ∨ t = 2 := by omega
   rcases h3 with rfl | rfl | rfl <;> simp at ih ⊢ <;> omega
def InOrd : Prop := ∀ (B : Nat) (v : Value) (rs : List RaceL) (W : World), B ≤ W.heap.size → rs.length ≤ 5000 → RacesAt B W v rs → Calls Tryz.prog 29 #[v] W fun e w' => e = .returned v ∧ ∃ rs', rs'.Perm rs ∧ (rs'.Pairwise fun r q => lessR q r = false) ∧ RacesAt B w' v rs' ∧ W.grownBy w' v.ownBlock
end Go.Proofs.YtknbchheoloaoaaGreat
