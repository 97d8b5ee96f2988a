/- The program's bits of what is ahead: course.ahead. -/
import Derived.Test.YtknbchheoloaoaaGreatSaD
namespace Go.Proofs.YtknbchheoloaoaaGreat
set_option linter.unusedVariables false
open Go.ChangeShapes Go.WideShapes Go.ChangeAt Go.RowKit
def DoneAt (w : World) (da : Option Addr) (ds : List DoneL) : Prop := ∀ k (h : k < ds.length), ∃ db, da = some ⟨db, 0, none⟩ ∧ db < w.heap.size ∧ w.cell? ⟨db, k * 2, none⟩ = some (.int .i64 (ds[k].t : Int)) ∧ w.cell? ⟨db, k * 2 + 1, none⟩ = some (.int .i64 (ds[k].k : Int))
theorem DoneAt.on {w w' : World} {da : Option Addr} {ds : List DoneL} (h : DoneAt w da ds) (hb : Below w.heap.size w w') : DoneAt w' da ds := fun k hk => by
 obtain ⟨db, h1, h2, h3, h4⟩ := h k hk
 exact ⟨db, h1, Nat.lt_of_lt_of_le h2 hb.size, (hb.cell (p := ⟨db, k * 2, none⟩) h2).trans h3, (hb.cell (p := ⟨db, k * 2 + 1, none⟩) h2).trans h4⟩
structure BoxD (w wr : World) (B : Nat) (d : DoneL) : Prop where
 c0 : wr.cell? ⟨B, 0, none⟩ = some (.int .i64 (d.t : Int))
 c1 : wr.cell? ⟨B, 1, none⟩ = some (.int .i64 (d.k : Int))
 hi : B < wr.heap.size
theorem BoxD.on {w wr w' : World} {B : Nat} {d : DoneL} (h : BoxD w wr B d) (hb : Below wr.heap.size wr w') : BoxD w w' B d :=
 ⟨(hb.cell (p := ⟨B, 0, none⟩) h.hi).trans h.c0, (hb.cell (p := ⟨B, 1, none⟩) h.hi).trans h.c1, Nat.lt_of_lt_of_le h.hi hb.size⟩
theorem BoxD.new (w wr : World) (d : DoneL) (t : TypeId) : BoxD w (wr.alloc (.cells #[.int .i64 (d.t : Int), .int .i64 (d.k : Int)] t)) wr.heap.size d := by
 have e := heap_alloc_new wr (.cells #[.int .i64 (d.t : Int), .int .i64 (d.k : Int)] t)
 exact ⟨rangeAt_heap e 0 _ rfl, rangeAt_heap e 1 _ rfl, by simp⟩
theorem BoxD.set {w wr : World} {B : Nat} {d : DoneL} (h : BoxD w wr B d) (O j : Nat) (v : Value) (hne : B ≠ O) : BoxD w (wr.setCell ⟨O, j, none⟩ v) B d := by
 have e : (wr.setCell ⟨O, j, none⟩ v).heap[B]? = wr.heap[B]? := World.heap_setCells_other wr O j [v] h.hi hne
 exact ⟨(World.cell?_of_block (w := wr) (a := ⟨B, 0, none⟩) e).trans h.c0, (World.cell?_of_block (w := wr) (a := ⟨B, 1, none⟩) e).trans h.c1, Nat.lt_of_lt_of_le h.hi (below_setCells (B := 0) (a := wr) O (Nat.zero_le _) [v] j wr (Below.refl _ _)).size⟩
theorem elemU : ∃ i, Tryz.prog.info? 71 = some i ∧ i.zero = some (.int .u64 0) ∧ i.size = 1 ∧ i.bytes = 8 := by
 obtain ⟨i0, hi0⟩ : ∃ i, Tryz.prog.info? 71 = some i := Option.isSome_iff_exists.1 (by kernel_rfl)
 have hz : (Tryz.prog.info? 71).bind (·.zero) = some (.int .u64 0) := by kernel_rfl
 refine ⟨i0, hi0, ?_, ?_, ?_⟩
 ·rw [hi0] at hz; exact hz
 ·have : (Tryz.prog.info? 71).map (·.size) = some 1 := by kernel_rfl
  rw [hi0] at this; exact Option.some.inj this
 ·have : (Tryz.prog.info? 71).map (·.bytes) = some 8 := by kernel_rfl
  rw [hi0] at this; exact Option.some.inj this
theorem made_u (n : Nat) : madeCells (Value.int .u64 0).cells n = (UV (List.replicate n 0)).toArray := by
 apply Array.ext
 ·simp [madeCells, UV]
 ·intro i h1 h2
  have hm : i % 1 = 0 := Nat.mod_one i
  simp [madeCells, UV, Value.cells, hm]
theorem makeU (n : Nat) (hn : n ≤ 64) (w : World) : ∃ W0, (Instr.makeSlice 69 (.int .i64 (n : Int)) (.int .i64 (n : Int))).run Tryz.prog w = .ok (.slice (some ⟨w.heap.size, 0, none⟩) n n) W0 ∧ AhW w W0 w.heap.size (List.replicate n 0) := by
 obtain ⟨i, h1, h2, h3, h4⟩ := elemU
 have h := run_makeSlice (P := Tryz.prog) w 69 71 i (.int .u64 0) Tryz.underlying69 h1 h2 .i64 .i64 (n : Int) (n : Int) (by omega) (by omega) (by rw [h3]; simp; omega) (by rw [h4]; omega) (by omega)
 rw [h3, Nat.mul_one, show (n : Int).toNat = n from rfl, made_u] at h
 have e := heap_alloc_new w (.cells (UV (List.replicate n 0)).toArray 71)
 refine ⟨_, h, below_1 _ _, ?_, ?_, Nat.le_refl _, by simp⟩
 ·exact rangeAt_heap e
 ·have := there_heap e
  simpa [UV] using this
set_option maxRecDepth 1000000 in
set_option maxHeartbeats 8000000 in
theorem ahead_calls {x : LitL} (g : Nat) (ta : Option Addr) (tc : Nat) (da : Option Addr) (dc : Nat) (ds : List DoneL) (w : World) (lo hi : Nat) (hh : hi ≤ w.heap.size) (hx : ListAt ThrR 1 true lo hi w (.slice ta x.thr.length tc) x.thr) (hd : DoneAt w da ds) (hdl : ds.length ≤ 64) (hdc : ds.length ≤ dc) (hin : ∀ d ∈ ds, ∃ a, actAt x d.t d.k = some a) (hg : g < w.heap.size) (hc : w.rangeAt g 0 [.int .i64 x.vars, .int .i64 x.vol, .int .i64 x.locks, .slice ta x.thr.length tc]) :
  Calls Tryz.prog 27 #[.pointer (some ⟨g, 0, none⟩), .slice da ds.length dc] w fun e w' => ∃ us, e = .returned (.slice (some ⟨w.heap.size, 0, none⟩) ds.length ds.length) ∧ AhW w w' w.heap.size us ∧ AhS (edgeE x ds) us ds.length ds.length 0 := by
 have hdH : Hid (∀ W, Below w.heap.size w W → DoneAt W da ds) := fun W hW => hd.on hW
 have hlead : Hid (∀ f k (hf : f < ds.length) (hk : k < ds.length) W, Below w.heap.size w W → Calls Tryz.prog 53 #[.pointer (some ⟨g, 0, none⟩), .agg #[.int .i64 (ds[f].t : Int), .int .i64 (ds[f].k : Int)], .agg #[.int .i64 (ds[k].t : Int), .int .i64 (ds[k].k : Int)]] W fun e w' => e = .returned (.bool (edgeE x ds f k)) ∧ Below W.heap.size W w') := fun f k hf hk W hW => by
  obtain ⟨a, ha⟩ := hin _ (List.getElem_mem hf)
  obtain ⟨b, hb⟩ := hin _ (List.getElem_mem hk)
  have e : edgeE x ds f k = edgeB x.vol ds[f] ds[k] a b := by
   unfold edgeE
   rw [List.getElem?_eq_getElem hf, List.getElem?_eq_getElem hk]
   simp [actOf, ha, hb]
  rw [e]
  have hs := hW.size
  exact leads_calls x _ _ a b g ta tc W lo hi (by omega) (hx.kept ThrR.stable (Nat.le_refl _) (Nat.le_refl _) ((Same.below hW).mono (Nat.zero_le _) hh)) (by omega) (fun j v hj => (hW.cell (p := ⟨g, 0 + j, none⟩) hg).trans (hc j v hj)) ha hb
 obtain ⟨E, hE⟩ : ∃ E, E = edgeE x ds := ⟨_, rfl⟩
 rw [← hE] at hlead ⊢
 have hdl' : (ds.length : Int) ≤ 64 := by omega
 have hdc' : (ds.length : Int) ≤ dc := by omega
 obtain ⟨n, hn⟩ : ∃ n, n = ds.length := ⟨_, rfl⟩
 have hnH : Hid (n = ds.length) := hn
 rw [← hn] at hdl hdl' hdc hdc' ⊢
 clear hE hx hd hc hin hh hn
 obtain ⟨W0, hmk, hAh⟩ := makeU n hdl w
 have hA0 : Hid (AhW w W0 w.heap.size (List.replicate n 0)) := hAh
 clear hAh
 go_enter Tryz.func27, Tryz.ntmps27
 go_wp2_with fail
 clear hmk
 go_loopw [15] (fun i wr => ∃ (k : Nat) (us : List Nat), k ≤ n ∧ i = .int .i64 k ∧ Hid (AhW w wr w.heap.size us) ∧ Hid (AhS E us n k 0)) (fun i _ => n - (intOf i).toNat)
 case atStart => exact ⟨0, _, Nat.zero_le _, rfl, hA0, AhS.start E n⟩
 case round =>
  clear hA0
  obtain ⟨k, us, hk, rfl, hA, hS⟩ := hrel
  by_cases hlt : k < n
  ·have hlt' : (k : Int) < (n : Int) := by omega
   have hkd : k < ds.length := by rw [← hnH.out]; exact hlt
   obtain ⟨db, rfl, hdb, d0, d1⟩ := hdH.out wr hA.out.hb k hkd
   have hk0 : (0 : Int) ≤ k := by omega
   have hkc : (k : Int) ≤ dc := by omega
   have hbx : Hid (BoxD w (wr.alloc (.cells #[.int .i64 (ds[k].t : Int), .int .i64 (ds[k].k : Int)] 53)) wr.heap.size ds[k]) := BoxD.new w wr _ _
   have hA1 : Hid (AhW w (wr.alloc (.cells #[.int .i64 (ds[k].t : Int), .int .i64 (ds[k].k : Int)] 53)) w.heap.size us) := hA.out.on (below_1 _ _)
   go_wp2_with fail
   have hB1 : Hid (w.heap.size < wr.heap.size) := hA.out.hi
   clear hA d0 d1
   generalize wr.alloc (.cells #[.int .i64 (ds[k].t : Int), .int .i64 (ds[k].k : Int)] 53) = W1 at *
   generalize wr.heap.size = B1 at *
   obtain ⟨q, hq⟩ : ∃ q, q = ds[k] := ⟨_, rfl⟩
   have hqH : Hid (q = ds[k]) := hq
   rw [← hq] at hbx ⊢
   clear hq
   go_loopw [24] (fun i w2 => ∃ (f : Nat) (us : List Nat), f ≤ k ∧ i = .int .i64 f ∧ Hid (AhW w w2 w.heap.size us) ∧ Hid (AhS E us n k f) ∧ Hid (BoxD w w2 B1 q)) (fun i _ => k - (intOf i).toNat)
   case atStart => exact ⟨0, us, Nat.zero_le _, rfl, hA1, hS, hbx⟩
   case round =>
    rename World => w2
    clear hA1 hbx hS
    obtain ⟨f, us, hf, rfl, hA, hS, hbx⟩ := hrel
    by_cases hlt2 : f < k
    ·have hlt2' : (f : Int) < (k : Int) := by omega
     have hfd : f < ds.length := by rw [← hnH.out]; omega
     obtain ⟨db', hdb', _, d0, d1⟩ := hdH.out w2 hA.out.hb f hfd
     cases hdb'
     have hf0 : (0 : Int) ≤ f := by omega
     have hfc : (f : Int) ≤ dc := by omega
     have hle := hlead.out f k hfd hkd
     rw [← hqH.out] at hle
     have hlH : Hid (∀ W, Below w.heap.size w W → Calls Tryz.prog 53 #[.pointer (some ⟨g, 0, none⟩), .agg #[.int .i64 (ds[f].t : Int), .int .i64 (ds[f].k : Int)], .agg #[.int .i64 (q.t : Int), .int .i64 (q.k : Int)]] W fun e w' => e = .returned (.bool (E f k)) ∧ Below W.heap.size W w') := hle
     clear hle
     generalize ds[f] = p at *
     have hA3 : Hid (AhW w (w2.alloc (.cells #[.int .i64 (p.t : Int), .int .i64 (p.k : Int)] 53)) w.heap.size us) := hA.out.on (below_1 _ _)
     have hb3 : Hid (BoxD w (w2.alloc (.cells #[.int .i64 (p.t : Int), .int .i64 (p.k : Int)] 53)) B1 q) := hbx.out.on (below_1 _ _)
     have hp3 : Hid (BoxD w (w2.alloc (.cells #[.int .i64 (p.t : Int), .int .i64 (p.k : Int)] 53)) w2.heap.size p) := BoxD.new w w2 _ _
     go_upto_region 8 with (fail)
     clear hA hbx d0 d1
     generalize w2.alloc (.cells #[.int .i64 (p.t : Int), .int .i64 (p.k : Int)] 53) = W3 at *
     generalize w2.heap.size = B2 at *
     obtain ⟨q0, q1, _⟩ := hb3.out
     obtain ⟨p0, p1, _⟩ := hp3.out
     have hl3 : Hid (Calls Tryz.prog 53 #[.pointer (some ⟨g, 0, none⟩), .agg #[.int .i64 (p.t : Int), .int .i64 (p.k : Int)], .agg #[.int .i64 (q.t : Int), .int .i64 (q.k : Int)]] W3 fun e w' => e = .returned (.bool (E f k)) ∧ Below W3.heap.size W3 w') := hlH.out W3 hA3.out.hb
     clear hlH
     cases hEe : E f k with
     | false =>
      rw [hEe] at hl3
      have hS2 : Hid (AhS E us n k (f + 1)) := hS.out.no hEe
      clear hS hEe
      go_wp2_with (first | (go_at_call 53; refine (show Calls _ _ _ _ _ from hl3.out).mono ?_; rintro e w4 ⟨rfl, hb4⟩))
      go_roundw
      case rel => exact ⟨f + 1, us, by omega, by go_num, hA3.out.on hb4, hS2, hb3.out.on hb4⟩
      case measure => simp [intOf]; omega
     | true =>
      rw [hEe] at hl3
      have hfl : f < us.length := by rw [hS.out.len]; omega
      have hkl : k < us.length := by rw [hS.out.len]; omega
      have hS2 : Hid (AhS E (us.set k (us[k] ||| (us[f] ||| 2 ^ f))) n k (f + 1)) := hS.out.yes hEe hlt2 hdl (List.getElem?_eq_getElem hkl) (List.getElem?_eq_getElem hfl)
      have hab : Hid (us[k] < 18446744073709551616 ∧ us[f] < 18446744073709551616) := ⟨hS.out.lt k _ (List.getElem?_eq_getElem hkl), hS.out.lt f _ (List.getElem?_eq_getElem hfl)⟩
      have hAl : Hid (us.length = n) := hS.out.len
      clear hS hEe q0 q1 p0 p1
      obtain ⟨q0, q1, _⟩ := hb3.out
      obtain ⟨p0, p1, _⟩ := hp3.out
      go_wp2_with (first | (go_at_call 53; refine (show Calls _ _ _ _ _ from hl3.out).mono ?_; rintro e W4 ⟨rfl, hb4⟩))
      have hA4 : Hid (AhW w W4 w.heap.size us) := hA3.out.on hb4
      have hb5 : Hid (BoxD w W4 B1 q) := hb3.out.on hb4
      obtain ⟨a, hae⟩ : ∃ a, a = us[k] := ⟨_, rfl⟩
      obtain ⟨b, hbe⟩ : ∃ b, b = us[f] := ⟨_, rfl⟩
      obtain ⟨p2, hpe⟩ : ∃ p2, p2 = 2 ^ f := ⟨_, rfl⟩
      obtain ⟨c1, hc1⟩ : ∃ c1, c1 = b ||| p2 := ⟨_, rfl⟩
      obtain ⟨c2, hc2⟩ : ∃ c2, c2 = a ||| c1 := ⟨_, rfl⟩
      rw [← hae, ← hbe] at hab
      rw [← hae, ← hbe, ← hpe, ← hc1, ← hc2] at hS2
      have hp64 : p2 < 18446744073709551616 := by rw [hpe]; exact Nat.lt_of_lt_of_le (Nat.pow_lt_pow_right (by decide) (show f < 64 by omega)) (by decide)
      have hc64 : c1 < 18446744073709551616 := by rw [hc1]; exact Nat.or_lt_two_pow (n := 64) hab.out.2 hp64
      have ho1 : Hid (bits .or .u64 (b : Int) (p2 : Int) = (c1 : Int)) := by show _ = _; rw [hc1]; exact or64 b p2 hab.out.2 hp64
      have ho2 : Hid (bits .or .u64 (a : Int) (c1 : Int) = (c2 : Int)) := by show _ = _; rw [hc2]; exact or64 a c1 hab.out.1 hc64
      have hp2 : Hid ((2 : Int) ^ f = (p2 : Int)) := by show _ = _; rw [hpe]; simp
      have hwp : Hid (IntKind.u64.wrap (p2 : Int) = (p2 : Int)) := by show _ = _; rw [IntKind.wrap_u64]; omega
      have hcell : Hid (∀ W, Below W4.heap.size W4 W → W.cell? ⟨w.heap.size, k, none⟩ = some (.int .u64 (a : Int)) ∧ W.cell? ⟨w.heap.size, f, none⟩ = some (.int .u64 (b : Int)) ∧ W.frozen? ⟨w.heap.size, k, none⟩ = false) := fun W hB => ⟨(hA4.out.on hB).at (by rw [hae]; exact List.getElem?_eq_getElem hkl), (hA4.out.on hB).at (by rw [hbe]; exact List.getElem?_eq_getElem hfl), (hA4.out.on hB).fr hkl⟩
      have hkn : (k : Int) < (n : Int) := by omega
      have hfn : (f : Int) < (n : Int) := by omega
      clear hb4 hA3 hb3 hp3 q0 q1 p0 p1 hae hbe hpe hc1 hc2 hp64 hc64 hl3
      refine wp_region_chain (by kernel_rfl) (fun vs => { tmps := #[.pointer (some ⟨g, 0, none⟩), .slice (some ⟨db, 0, none⟩) n dc, undef, undef, .slice none 0 0, .slice (some ⟨w.heap.size, 0, none⟩) n n, .int .i64 (k : Int), .pointer (some ⟨B1, 0, none⟩), .int .i64 (f : Int), .pointer (some ⟨B2, 0, none⟩), .slice (some ⟨db, 0, none⟩) n dc, .int .i64 (n : Int), .slice (some ⟨w.heap.size, 0, none⟩) n n, .slice (some ⟨db, 0, none⟩) n dc, .int .i64 (n : Int), .int .i64 (k : Int), .bool true, .int .i64 (k : Int), .pointer (some ⟨db, k * 2, none⟩), .agg #[.int .i64 (q.t : Int), .int .i64 (q.k : Int)], .slice (some ⟨db, 0, none⟩) n dc, .int .i64 (k : Int), .slice (some ⟨db, 0, none⟩) k dc, .int .i64 (k : Int), .int .i64 (f : Int), .bool true, .int .i64 (f : Int), .pointer (some ⟨db, f * 2, none⟩), .agg #[.int .i64 (p.t : Int), .int .i64 (p.k : Int)], .pointer (some ⟨g, 0, none⟩), .agg #[.int .i64 (p.t : Int), .int .i64 (p.k : Int)], .agg #[.int .i64 (q.t : Int), .int .i64 (q.k : Int)], .bool true, vs 0, vs 1, vs 2, vs 3, vs 4, vs 5, vs 6, vs 7, vs 8, vs 9, vs 10, vs 11, vs 12, u46, u47, undef], defers := [] }) [] (lv1 [.slice (some ⟨w.heap.size, 0, none⟩) n n, .int .i64 (k : Int), .pointer (some ⟨w.heap.size, k, none⟩), .int .u64 (a : Int), .slice (some ⟨w.heap.size, 0, none⟩) n n, .int .i64 (f : Int), .pointer (some ⟨w.heap.size, f, none⟩), .int .u64 (b : Int), .int .i64 (f : Int), .int .u64 (p2 : Int), .int .u64 (c1 : Int), .int .u64 (c2 : Int), .pointer (some ⟨w.heap.size, k, none⟩)]) (fun _ _ W => Below W4.heap.size W4 W) (fun i => if i = 0 then u33 else if i = 1 then u34 else if i = 2 then u35 else if i = 3 then u36 else if i = 4 then u37 else if i = 5 then u38 else if i = 6 then u39 else if i = 7 then u40 else if i = 8 then u41 else if i = 9 then u42 else if i = 10 then u43 else if i = 11 then u44 else if i = 12 then u45 else undef) rfl (by kernel_rfl) ?_ (fun _ _ _ _ _ _ h => h) (allAt_all ⟨?_, ?_, ?_, ?_, ?_, ?_, ?_, ?_, ?_, ?_, ?_, ?_, ?_, ?_, trivial⟩) ?_ ?_
      case refine_1 => exact Below.drew (Below.refl _ _)
      case refine_2 =>
       intro _ _ kk vs W hB hv
       clear hv
       go_wp2
       exact PurePost.mk' (.slice (some ⟨w.heap.size, 0, none⟩) n n) (by rfl) rfl
      case refine_3 =>
       intro _ _ kk vs W hB hv
       clear hv
       go_wp2
       exact PurePost.mk' (.int .i64 (k : Int)) (by rfl) rfl
      case refine_4 =>
       intro _ _ kk vs W hB hv
       have e0 : vs 0 = .slice (some ⟨w.heap.size, 0, none⟩) n n := hv ⟨0, .data⟩ (by simp) rfl (by decide)
       have e1 : vs 1 = .int .i64 (k : Int) := hv ⟨1, .data⟩ (by simp) rfl (by decide)
       clear hv
       simp only [e0, e1]
       go_wp2
       exact PurePost.mk' (.pointer (some ⟨w.heap.size, k, none⟩)) (by simp [upd, e0, e1]) rfl
      case refine_5 =>
       intro _ _ kk vs W hB hv
       have e2 : vs 2 = .pointer (some ⟨w.heap.size, k, none⟩) := hv ⟨2, .data⟩ (by simp) rfl (by decide)
       obtain ⟨u1, u2, u3⟩ := hcell.out W hB
       clear hv
       simp only [e2]
       go_wp2
       exact PurePost.mk' (.int .u64 (a : Int)) (by first | (rw [← e2]; rfl) | (simp [upd, e2])) rfl
      case refine_6 =>
       intro _ _ kk vs W hB hv
       clear hv
       go_wp2
       exact PurePost.mk' (.slice (some ⟨w.heap.size, 0, none⟩) n n) (by rfl) rfl
      case refine_7 =>
       intro _ _ kk vs W hB hv
       clear hv
       go_wp2
       exact PurePost.mk' (.int .i64 (f : Int)) (by rfl) rfl
      case refine_8 =>
       intro _ _ kk vs W hB hv
       have e4 : vs 4 = .slice (some ⟨w.heap.size, 0, none⟩) n n := hv ⟨4, .data⟩ (by simp) rfl (by decide)
       have e5 : vs 5 = .int .i64 (f : Int) := hv ⟨5, .data⟩ (by simp) rfl (by decide)
       clear hv
       simp only [e4, e5]
       go_wp2
       exact PurePost.mk' (.pointer (some ⟨w.heap.size, f, none⟩)) (by simp [upd, e4, e5]) rfl
      case refine_9 =>
       intro _ _ kk vs W hB hv
       have e6 : vs 6 = .pointer (some ⟨w.heap.size, f, none⟩) := hv ⟨6, .data⟩ (by simp) rfl (by decide)
       obtain ⟨u1, u2, u3⟩ := hcell.out W hB
       clear hv
       simp only [e6]
       go_wp2
       exact PurePost.mk' (.int .u64 (b : Int)) (by first | (rw [← e6]; rfl) | (simp [upd, e6])) rfl
      case refine_10 =>
       intro _ _ kk vs W hB hv
       clear hv
       go_wp2
       exact PurePost.mk' (.int .i64 (f : Int)) (by rfl) rfl
      case refine_11 =>
       intro _ _ kk vs W hB hv
       have e8 : vs 8 = .int .i64 (f : Int) := hv ⟨8, .data⟩ (by simp) rfl (by decide)
       clear hv
       simp only [e8]
       go_wp2; rw [show (2 : Int) ^ f = (p2 : Int) from hp2.out, show IntKind.u64.wrap (p2 : Int) = (p2 : Int) from hwp.out]
       exact PurePost.mk' (.int .u64 (p2 : Int)) (by simp [upd, e8]) rfl
      case refine_12 =>
       intro _ _ kk vs W hB hv
       have e7 : vs 7 = .int .u64 (b : Int) := hv ⟨7, .data⟩ (by simp) rfl (by decide)
       have e9 : vs 9 = .int .u64 (p2 : Int) := hv ⟨9, .data⟩ (by simp) rfl (by decide)
       have hbo := ho1.out
       clear hv
       simp only [e7, e9]
       go_wp2
       exact PurePost.mk' (.int .u64 (c1 : Int)) (by first | (rw [← e7, ← e9]; rfl) | (simp [upd, e7, e9])) rfl
      case refine_13 =>
       intro _ _ kk vs W hB hv
       have e3 : vs 3 = .int .u64 (a : Int) := hv ⟨3, .data⟩ (by simp) rfl (by decide)
       have e10 : vs 10 = .int .u64 (c1 : Int) := hv ⟨10, .data⟩ (by simp) rfl (by decide)
       have hbo := ho2.out
       clear hv
       simp only [e3, e10]
       go_wp2
       exact PurePost.mk' (.int .u64 (c2 : Int)) (by first | (rw [← e3, ← e10]; rfl) | (simp [upd, e3, e10])) rfl
      case refine_14 =>
       intro _ _ kk vs W hB hv
       have e0 : vs 0 = .slice (some ⟨w.heap.size, 0, none⟩) n n := hv ⟨0, .data⟩ (by simp) rfl (by decide)
       have e1 : vs 1 = .int .i64 (k : Int) := hv ⟨1, .data⟩ (by simp) rfl (by decide)
       clear hv
       simp only [e0, e1]
       go_wp2
       exact PurePost.mk' (.pointer (some ⟨w.heap.size, k, none⟩)) (by simp [upd, e0, e1]) rfl
      case refine_15 => exact fun _ h => absurd h (by simp)
      case refine_16 =>
       intro kk qq o hq
       simp at hq
      case refine_17 =>
       intro o ho vs W hB hv
       obtain rfl := Option.some.inj ho
       have e0 : vs 0 = .slice (some ⟨w.heap.size, 0, none⟩) n n := hv 0 (by simp) (by simp)
       have e1 : vs 1 = .int .i64 (k : Int) := hv 1 (by simp) (by simp)
       have e2 : vs 2 = .pointer (some ⟨w.heap.size, k, none⟩) := hv 2 (by simp) (by simp)
       have e3 : vs 3 = .int .u64 (a : Int) := hv 3 (by simp) (by simp)
       have e4 : vs 4 = .slice (some ⟨w.heap.size, 0, none⟩) n n := hv 4 (by simp) (by simp)
       have e5 : vs 5 = .int .i64 (f : Int) := hv 5 (by simp) (by simp)
       have e6 : vs 6 = .pointer (some ⟨w.heap.size, f, none⟩) := hv 6 (by simp) (by simp)
       have e7 : vs 7 = .int .u64 (b : Int) := hv 7 (by simp) (by simp)
       have e8 : vs 8 = .int .i64 (f : Int) := hv 8 (by simp) (by simp)
       have e9 : vs 9 = .int .u64 (p2 : Int) := hv 9 (by simp) (by simp)
       have e10 : vs 10 = .int .u64 (c1 : Int) := hv 10 (by simp) (by simp)
       have e11 : vs 11 = .int .u64 (c2 : Int) := hv 11 (by simp) (by simp)
       have e12 : vs 12 = .pointer (some ⟨w.heap.size, k, none⟩) := hv 12 (by simp) (by simp)
       obtain ⟨u1, u2, u3⟩ := hcell.out W hB
       have hA6 : Hid (AhW w (W.setCell ⟨w.heap.size, k, none⟩ (.int .u64 (c2 : Int))) w.heap.size (us.set k c2)) := (hA4.out.on hB).set k hkl c2
       have hb6 : Hid (BoxD w (W.setCell ⟨w.heap.size, k, none⟩ (.int .u64 (c2 : Int))) B1 q) := (hb5.out.on hB).set _ _ _ (by have := hB1.out; omega)
       clear hv
       simp only [e0, e1, e2, e3, e4, e5, e6, e7, e8, e9, e10, e11, e12]
       clear e0 e1 e2 e3 e4 e5 e6 e7 e8 e9 e10 e11 e12
       go_wp2
       go_roundw
       case rel => exact ⟨f + 1, _, by omega, by go_num, hA6, hS2, hb6⟩
       case measure => simp [intOf]; omega
    ·have hfk : f = k := by omega
     subst hfk
     have hS2 : Hid (AhS E us n (f + 1) 0) := hS.out.last
     go_wp2
     go_roundw
     case rel => exact ⟨f + 1, us, by omega, by go_num, hA, hS2⟩
     case measure => simp [intOf]; omega
  ·have hke : k = n := by omega
   subst hke
   go_wp2
   go_ret
   exact ⟨us, rfl, hA.out, hS.out⟩
end Go.Proofs.YtknbchheoloaoaaGreat
