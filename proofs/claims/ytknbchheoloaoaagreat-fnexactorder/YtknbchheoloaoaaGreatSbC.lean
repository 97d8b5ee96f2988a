/- The specification's Order: the walk. -/
import Derived.Test.YtknbchheoloaoaaGreatSbB
import Derived.Test.YtknbchheoloaoaaGreatLtJ
import Derived.Test.YtknbchheoloaoaaGreatSoO
import Derived.Deep.DeepCutAuto
import Derived.Lib.QuietBelow
namespace Go.Proofs.YtknbchheoloaoaaGreat
set_option linter.unusedVariables false
open Go.ChangeShapes Go.WideShapes Go.ChangeAt Go.RowKit
set_option maxRecDepth 1000000 in
set_option maxHeartbeats 20000000 in
theorem specOrder_yes (x : LitL) (ta : Option Addr) (tc : Nat) (za : Option Addr) (zc : Nat) (zs : List Int) (w : World) (lo hi lo2 hi2 : Nat) (hh : hi ≤ w.heap.size) (hh2 : hi2 ≤ w.heap.size) (hx : ListAt ThrR 1 true lo hi w (.slice ta x.thr.length tc) x.thr) (hz : ListAt IntR 1 true lo2 hi2 w (.slice za zs.length zc) zs) (hzl : zs.length ≤ 1048576) (hs : x.small) (hl : litB x = true) (ds : List DoneL) (hds : ds = runS x (startS x.thr.length x.vars.toNat) (zs.take 4000)) :
  Calls Tryz.prog 5 #[.agg #[.int .i64 x.vars, .int .i64 x.vol, .int .i64 x.locks, .slice ta x.thr.length tc], .slice za zs.length zc] w fun e w' => ∃ v1 v2, e = .returned (.agg #[v1, v2]) ∧ w'.ownsRow 0 53 2 v1 ds.length (doneV ds) ∧ RacesAt 0 w' v2 ((specRaces x ds ds.length).foldl insR []) ∧ Below w.heap.size w w' := by
 have hlit : Hid (∀ W, Below w.heap.size w W → Calls Tryz.prog 17 #[.agg #[.int .i64 x.vars, .int .i64 x.vol, .int .i64 x.locks, .slice ta x.thr.length tc]] W fun e w' => e = .returned (.bool true) ∧ Below W.heap.size W w') := fun W hW => by
  have h := litS_calls x W [.int .i64 x.vars, .int .i64 x.vol, .int .i64 x.locks, .slice ta x.thr.length tc] lo hi (by have := hW.size; omega) ⟨_, rfl, hx.kept ThrR.stable (Nat.le_refl _) (Nat.le_refl _) ((Same.below hW).mono (Nat.zero_le _) hh)⟩ hs
  rw [hl] at h; exact h
 obtain ⟨ho, _, hf⟩ := lit_ok hl
 have hxH : Hid (∀ W, Below w.heap.size w W → ListAt ThrR 1 true lo hi W (.slice ta x.thr.length tc) x.thr) := fun W hW => hx.kept ThrR.stable (Nat.le_refl _) (Nat.le_refl _) ((Same.below hW).mono (Nat.zero_le _) hh)
 have hzH : Hid (∀ W, Below w.heap.size w W → ListAt IntR 1 true lo2 hi2 W (.slice za zs.length zc) zs) := fun W hW => hz.kept IntR.stable (Nat.le_refl _) (Nat.le_refl _) ((Same.below hW).mono (Nat.zero_le _) hh2)
 have hstH : Hid (∀ W, Calls Tryz.prog 18 #[.agg #[.int .i64 x.vars, .int .i64 x.vol, .int .i64 x.locks, .slice ta x.thr.length tc]] W fun e w' => (∃ p, e = .returned p ∧ ReadSt w' p (startS x.thr.length x.vars.toNat)) ∧ Below W.heap.size W w') := fun W => start_calls x.vars x.vol x.locks ta x.thr.length tc x.vars.toNat W (by have := ho.v0; omega) (by have := ho.v1; omega) (by have := ho.n1; omega)
 have hoH : Hid (OkL x) := ho
 have hR0 : Hid (FolO x (startS x.thr.length x.vars.toNat) [] ds (zs.take 4000) 0) := ⟨wf_start ho, Nat.le_refl _, by rw [hds]; rfl⟩
 have hin : Hid (∀ d ∈ ds, d.t < x.thr.length ∧ ∃ a, actAt x d.t d.k = some a) := fun d hd => runS_in ho _ _ (wf_start ho) d (hds ▸ hd)
 have hlen : Hid (ds.length ≤ 12) := by
  show _ ≤ _
  have := runS_len ho (zs.take 4000) _ (wf_start ho)
  rw [← hds] at this; omega
 have hhH : Hid (hi ≤ w.heap.size) := hh
 have hh2H : Hid (hi2 ≤ w.heap.size) := hh2
 have hn3 : (x.thr.length : Int) ≤ 3 := by have := ho.n1; omega
 have hn0 : (1 : Int) ≤ x.thr.length := by have := ho.n0; omega
 have hzl' : (zs.length : Int) ≤ 1048576 := by omega
 clear hx hz hs hl hds ho hf hh hh2
 obtain ⟨W0, hW0⟩ : ∃ W0 : World, W0 = ((w.alloc (.cells #[.int .i64 x.vars, .int .i64 x.vol, .int .i64 x.locks, .slice ta x.thr.length tc] 34)).alloc (.cells #[.slice none 0 0, .slice none 0 0] 30)).alloc (.cells #[.slice none 0 0, .slice none 0 0] 30) := ⟨_, rfl⟩
 have hO0 : Hid (OrW w W0 x ta tc (.slice none 0 0) (.slice none 0 0) [] []) := by
  show OrW _ _ _ _ _ _ _ _ _
  rw [hW0]
  refine ⟨below_on (below_on (below_1 _ _) (below_1 _ _)) (below_1 _ _), ?_, ?_, ?_, ⟨rfl, .inl ⟨rfl, rfl⟩⟩, ⟨rfl, .inl ⟨rfl, rfl⟩⟩, fun _ => rfl⟩
  ·rw [Below.heap_alloc _ _ _ (by simp; omega), Below.heap_alloc _ _ _ (by simp)]; exact heap_alloc_new _ _
  ·rw [Below.heap_alloc _ _ _ (by simp)]
   have := heap_alloc_new (w.alloc (.cells #[.int .i64 x.vars, .int .i64 x.vol, .int .i64 x.locks, .slice ta x.thr.length tc] 34)) (.cells #[.slice none 0 0, .slice none 0 0] 30)
   simpa using this
  ·have := heap_alloc_new ((w.alloc (.cells #[.int .i64 x.vars, .int .i64 x.vol, .int .i64 x.locks, .slice ta x.thr.length tc] 34)).alloc (.cells #[.slice none 0 0, .slice none 0 0] 30)) (.cells #[.slice none 0 0, .slice none 0 0] 30)
   simpa using this
 go_enter Tryz.func5, Tryz.ntmps5
 go_upto_region 2 with (fail)
 rw [← hW0]
 clear hW0
 obtain ⟨r0, r1, r2, r3⟩ := hO0.out.lit
 go_upto_region 4 with (first
  | (go_at_call 17; refine (show Calls _ _ _ _ _ from hlit.out _ hO0.out.hb).mono ?_; rintro e w1 ⟨rfl, hb1⟩; have hO1 : Hid (OrW w w1 x ta tc (.slice none 0 0) (.slice none 0 0) [] []) := hO0.out.on hb1; clear hb1 hO0 hlit))
 clear r0 r1 r2 r3
 obtain ⟨r0, r1, r2, r3⟩ := hO1.out.lit
 go_upto_region 5 with (first
  | (go_at_call 18; refine (show Calls _ _ _ _ _ from hstH.out _).mono ?_; rintro e w2 ⟨⟨p, rfl, hst2⟩, hb2⟩; have hO2 : Hid (OrW w w2 x ta tc (.slice none 0 0) (.slice none 0 0) [] []) := hO1.out.on hb2; have hS2 : Hid (ReadSt w2 p (startS x.thr.length x.vars.toNat)) := hst2; clear hb2 hO1 hstH hst2))
 clear r0 r1 r2 r3
 have hlen4 : Hid ((zs.take 4000).length ≤ zs.length ∧ (zs.take 4000).length ≤ 4000) := by show _ ∧ _; rw [List.length_take]; omega
 go_wp2_with fail
 go_loopw [6, 7] (fun p i wr => ∃ (m : Nat) (s : S11) (v1 : Value) (es : List DoneL), m ≤ (zs.take 4000).length ∧ i = .int .i64 m ∧ Hid (OrW w wr x ta tc v1 (.slice none 0 0) es []) ∧ Hid (ReadSt wr p s) ∧ Hid (FolO x s es ds (zs.take 4000) m)) (fun _ i _ => (zs.take 4000).length - (intOf i).toNat)
 case atStart => exact ⟨0, _, _, _, Nat.zero_le _, rfl, hO2, hS2, hR0⟩
 case round =>
  clear hO2 hS2 hR0
  obtain ⟨m, s, v1, es, hm, rfl, hO, hS, hF⟩ := hrel
  have htake := take_lt zs m
  go_upto_region 6 with fail
  go_cut [31] (fun b wc => b = .bool (decide (m < (zs.take 4000).length)) ∧ wr = wc)
  case first =>
   by_cases h1 : m < zs.length
   ·have h1' : (m : Int) < (zs.length : Int) := Int.ofNat_lt.2 h1
    by_cases h2 : m < 4000
    ·have h2' : (m : Int) < 4000 := Int.ofNat_lt.2 h2
     have hd : Hid (decide (m < (zs.take 4000).length) = true) := decide_eq_true (htake.2 ⟨h1, h2⟩)
     clear htake
     go_wp2_with fail
     go_meet
     exact ⟨by rw [hd.out], rfl⟩
    ·have h2' : ¬ (m : Int) < 4000 := fun q => h2 (Int.ofNat_lt.1 q)
     have hd : Hid (decide (m < (zs.take 4000).length) = false) := decide_eq_false (fun q => h2 (htake.1 q).2)
     clear htake
     go_wp2_with fail
     go_meet
     exact ⟨by rw [hd.out], rfl⟩
   ·have h1' : ¬ (m : Int) < (zs.length : Int) := fun q => h1 (Int.ofNat_lt.1 q)
    have hd : Hid (decide (m < (zs.take 4000).length) = false) := decide_eq_false (fun q => h1 (htake.1 q).1)
    clear htake
    go_wp2_with fail
    go_meet
    exact ⟨by rw [hd.out], rfl⟩
  case rest =>
  obtain ⟨rfl, rfl⟩ := hcut
  clear htake
  by_cases hlt : m < (zs.take 4000).length
  ·have hdt : decide (m < (zs.take 4000).length) = true := decide_eq_true hlt
   rw [hdt]
   clear hdt
   obtain ⟨hm1, hze, hm1', hm2'⟩ := take_get zs m hlt
   obtain ⟨zb, zo, row, rfl, hbb, hrl, hrr, hrd⟩ := (hzH.out w (Below.refl _ _)).at m hm1
   have q0 : w.cell? ⟨zb, zo + m, none⟩ = some (.int .i64 zs[m]) := by rw [hrd] at hrr; simpa using hrr 0 _ rfl
   obtain ⟨z, hz⟩ : ∃ z, zs[m] = z := ⟨_, rfl⟩
   have hzm : Hid ((zs.take 4000)[m] = z) := hze.trans hz
   rw [hz] at q0
   have hzb : Hid (zb < w.heap.size) := Nat.lt_of_lt_of_le hbb hh2H.out
   have hq : Hid (∀ W, Below w.heap.size w W → W.cell? ⟨zb, zo + m, none⟩ = some (.int .i64 z)) := fun W hW => (hW.cell (p := ⟨zb, zo + m, none⟩) hzb.out).trans q0
   have q1 := hq.out wr hO.out.hb
   clear hrr hrd hrl hbb hze hz q0
   go_upto_region 8 with fail
   have k1 := cell_regrown q1
   obtain ⟨l0, l1, l2, l3⟩ := hO.out.lit
   replace l0 := cell_regrown l0
   replace l1 := cell_regrown l1
   replace l2 := cell_regrown l2
   replace l3 := cell_regrown l3
   by_cases hneg : z < 0
   ·have hF2 : Hid (FolO x s es ds (zs.take 4000) (m + 1)) := hF.out.far hlt hzm.out (.inl hneg)
    have cC : True := trivial
    clear hF q1
    refine wp_region_quiet_below (by kernel_rfl) (by kernel_rfl) ?_
    repeat (first | go_big_quiet_step (fail) | quiet_step (fail))
    refine wpQuiet_nil ?_
    intro _ hw'
    obtain ⟨⟨dq, osq⟩, hw''⟩ := hw'
    subst hw''
    have hO8 : Hid (OrW w (Sort.grow (redrawn wr dq) osq) x ta tc v1 (.slice none 0 0) es []) := hO.out.on (below_regrown wr dq osq)
    have hS8 : Hid (ReadSt (Sort.grow (redrawn wr dq) osq) u6 s) := hS.out.below (below_regrown wr dq osq)
    clear cC k1 l0 l1 l2 l3 hO hS
    generalize Sort.grow (redrawn wr dq) osq = W8 at hO8 hS8 ⊢
    go_wp2
    go_roundw
    case rel => exact ⟨m + 1, s, v1, es, hlt, by go_num, hO8, hS8, hF2⟩
    case measure => simp [intOf]; omega
   ·by_cases hge : (x.thr.length : Int) ≤ z
    ·have hF2 : Hid (FolO x s es ds (zs.take 4000) (m + 1)) := hF.out.far hlt hzm.out (.inr hge)
     have cC : True := trivial
     clear hF q1
     refine wp_region_quiet_below (by kernel_rfl) (by kernel_rfl) ?_
     repeat (first | go_big_quiet_step (fail) | quiet_step (fail))
     refine wpQuiet_nil ?_
     intro _ hw'
     obtain ⟨⟨dq, osq⟩, hw''⟩ := hw'
     subst hw''
     have hO8 : Hid (OrW w (Sort.grow (redrawn wr dq) osq) x ta tc v1 (.slice none 0 0) es []) := hO.out.on (below_regrown wr dq osq)
     have hS8 : Hid (ReadSt (Sort.grow (redrawn wr dq) osq) u6 s) := hS.out.below (below_regrown wr dq osq)
     clear cC k1 l0 l1 l2 l3 hO hS
     generalize Sort.grow (redrawn wr dq) osq = W8 at hO8 hS8 ⊢
     go_wp2
     go_roundw
     case rel => exact ⟨m + 1, s, v1, es, hlt, by go_num, hO8, hS8, hF2⟩
     case measure => simp [intOf]; omega
    ·obtain ⟨t, rfl⟩ : ∃ t : Nat, z = (t : Int) := ⟨z.toNat, by omega⟩
     have htl' : (t : Int) < (x.thr.length : Int) := by omega
     have htl : t < x.thr.length := Int.ofNat_lt.1 htl'
     cases hcan : canS x s t with
     | false =>
      have hF2 : Hid (FolO x s es ds (zs.take 4000) (m + 1)) := hF.out.cannot hlt hzm.out hcan
      have cC := orCan hoH.out hhH.out hxH.out hO.out hS.out hF.out.wf htl hcan
      clear hF hcan hzm q1
      refine wp_region_quiet_below (by kernel_rfl) (by kernel_rfl) ?_
      repeat (first | go_big_quiet_step (exact cC _ _) | quiet_step (exact cC _ _))
      refine wpQuiet_nil ?_
      intro _ hw'
      obtain ⟨⟨dq, osq⟩, hw''⟩ := hw'
      subst hw''
      have hO8 : Hid (OrW w (Sort.grow (redrawn wr dq) osq) x ta tc v1 (.slice none 0 0) es []) := hO.out.on (below_regrown wr dq osq)
      have hS8 : Hid (ReadSt (Sort.grow (redrawn wr dq) osq) u6 s) := hS.out.below (below_regrown wr dq osq)
      clear cC k1 l0 l1 l2 l3 hO hS
      generalize Sort.grow (redrawn wr dq) osq = W8 at hO8 hS8 ⊢
      go_wp2
      go_roundw
      case rel => exact ⟨m + 1, s, v1, es, hlt, by go_num, hO8, hS8, hF2⟩
      case measure => simp [intOf]; omega
     | true =>
      obtain ⟨a, hp2, hF2⟩ := hF.out.can hoH.out hlt hzm.out htl hcan
      have hwf : Hid (Wf x s) := hF.out.wf
      have hel : Hid (es.length ≤ m) := hF.out.len
      have cC := orCan hoH.out hhH.out hxH.out hO.out hS.out hF.out.wf htl hcan
      clear hF hcan hzm
      refine wp_region_quiet_below (by kernel_rfl) (by kernel_rfl) ?_
      repeat (first | go_big_quiet_step (exact cC _ _) | quiet_step (exact cC _ _))
      refine wpQuiet_nil ?_
      intro _ hw'
      obtain ⟨⟨dq, osq⟩, hw''⟩ := hw'
      subst hw''
      have hO8 : Hid (OrW w (Sort.grow (redrawn wr dq) osq) x ta tc v1 (.slice none 0 0) es []) := hO.out.on (below_regrown wr dq osq)
      have hS8 : Hid (ReadSt (Sort.grow (redrawn wr dq) osq) u6 s) := hS.out.below (below_regrown wr dq osq)
      have q8 := k1 dq osq
      clear cC k1 l0 l1 l2 l3 hO hS q1
      generalize Sort.grow (redrawn wr dq) osq = W8 at hO8 hS8 q8 ⊢
      go_wp2_with fail
      obtain ⟨g, b0, c0, rfl, hc0, hseen0, hseenS0⟩ := hO8.out.seen hS8.out hwf.out htl hzb.out q8
      have hseen : Hid _ := hseen0
      have hseenS : Hid _ := hseenS0
      clear hseen0 hseenS0 hS8 q8
      obtain ⟨hel1, hel2, hel3⟩ := app_room (w := w) hel.out hm2' hO8.out
      obtain ⟨pc, hpc⟩ : ∃ pc, pcOf s t = pc := ⟨_, rfl⟩
      rw [hpc] at hF2 hseen
      clear hpc
      obtain ⟨i2, hi2', hz2, hs2, hbb2⟩ := elemD
      refine wp_region_chain (by kernel_rfl) (fun vs => { tmps := #[.agg #[.int .i64 x.vars, .int .i64 x.vol, .int .i64 x.locks, .slice ta x.thr.length tc], .slice (some ⟨zb, zo, none⟩) zs.length zc, .pointer (some ⟨w.heap.size, 0, none⟩), undef, .pointer (some ⟨w.heap.size + 1, 0, none⟩), .pointer (some ⟨w.heap.size + 1 + 1, 0, none⟩), .pointer (some ⟨g, 0, none⟩), .int .i64 (m : Int), undef, undef, undef, undef, undef, undef, undef, undef, undef, .agg #[.slice none 0 0, .slice none 0 0], .agg #[.int .i64 x.vars, .int .i64 x.vol, .int .i64 x.locks, .slice ta x.thr.length tc], .bool true, .bool false, undef, .agg #[.int .i64 x.vars, .int .i64 x.vol, .int .i64 x.locks, .slice ta x.thr.length tc], p, u24, u25, u26, u27, u28, u29, u30, .bool true, u32, u33, .slice (some ⟨zb, zo, none⟩) zs.length zc, .int .i64 (m : Int), .pointer (some ⟨zb, zo + m, none⟩), .int .i64 (t : Int), .bool false, .bool false, .slice (some ⟨zb, zo, none⟩) zs.length zc, .int .i64 (m : Int), .pointer (some ⟨zb, zo + m, none⟩), .int .i64 (t : Int), .pointer (some ⟨w.heap.size, 3, none⟩), .slice ta x.thr.length tc, .int .i64 (x.thr.length : Int), .bool false, .bool false, .bool false, .agg #[.int .i64 x.vars, .int .i64 x.vol, .int .i64 x.locks, .slice ta x.thr.length tc], .pointer (some ⟨g, 0, none⟩), .slice (some ⟨zb, zo, none⟩) zs.length zc, .int .i64 (m : Int), .pointer (some ⟨zb, zo + m, none⟩), .int .i64 (t : Int), .bool true, .bool false, .bool false, vs 0, vs 1, vs 2, vs 3, vs 4, vs 5, vs 6, vs 7, vs 8, vs 9, vs 10, vs 11, vs 12, vs 13, vs 14, vs 15, vs 16, vs 17, vs 18, vs 19, u79, u80, u81, u82, u83, u84, u85, undef, undef, undef, undef, undef, undef, undef, undef, undef, undef, undef, undef, undef, undef, undef, undef, undef, undef, undef, undef, undef, undef, undef, undef, undef, undef, undef, undef, undef, undef, undef, undef, undef, undef, undef, undef, undef, undef, undef, undef, undef, undef, undef, undef, undef, undef, undef, undef, undef, undef, undef, undef, undef, undef, undef, undef, undef, undef, undef, undef, undef, undef, undef, undef, undef, undef, undef, undef, undef, undef, undef, undef, undef, undef, undef, undef, undef, undef, undef, undef, undef, undef, undef, undef, undef, undef, undef, undef, undef, undef, undef, undef, undef, undef, undef, undef, undef, undef, undef, undef, undef, undef, undef, undef, undef, undef, undef, undef, undef, undef, undef, undef, undef, undef, undef, undef, undef, undef, undef, undef, undef, undef, undef, undef, undef, undef, undef, undef, undef, undef, undef, undef, undef, undef, undef, undef, undef, undef, undef, undef, undef, undef, undef, undef, undef], defers := [] }) [17, 18] (lv1 [.pointer (some ⟨w.heap.size + 1 + 1, 0, none⟩), v1, .slice (some ⟨zb, zo, none⟩) zs.length zc, .int .i64 (m : Int), .pointer (some ⟨zb, zo + m, none⟩), .int .i64 (t : Int), .pointer (some ⟨g, 0, none⟩), .pointer (some ⟨g, 0, none⟩), .pointer (some ⟨g, 0, none⟩), .slice (some ⟨b0, 0, none⟩) x.thr.length c0, .slice (some ⟨zb, zo, none⟩) zs.length zc, .int .i64 (m : Int), .pointer (some ⟨zb, zo + m, none⟩), .int .i64 (t : Int), .pointer (some ⟨b0, t, none⟩), .int .i64 (pc : Int), .agg #[.int .i64 (t : Int), .int .i64 (pc : Int)], undef, undef, .pointer (some ⟨w.heap.size + 1 + 1, 0, none⟩)]) (addR w W8 v1 es t pc) (fun i => if i = 0 then u59 else if i = 1 then u60 else if i = 2 then u61 else if i = 3 then u62 else if i = 4 then u63 else if i = 5 then u64 else if i = 6 then u65 else if i = 7 then u66 else if i = 8 then u67 else if i = 9 then u68 else if i = 10 then u69 else if i = 11 then u70 else if i = 12 then u71 else if i = 13 then u72 else if i = 14 then u73 else if i = 15 then u74 else if i = 16 then u75 else if i = 17 then u76 else if i = 18 then u77 else if i = 19 then u78 else undef) rfl (by kernel_rfl) ?_ (addR_loc _ _ _ _ _ _) (allAt_all ⟨?_, ?_, ?_, ?_, ?_, ?_, ?_, ?_, ?_, ?_, ?_, ?_, ?_, ?_, ?_, ?_, ?_, ?_, ?_, ?_, ?_, trivial⟩) ?_ ?_
      case refine_1 => exact Below.drew (Below.refl _ _)
      case refine_2 =>
       intro _ _ k vs W hR hv
       clear hv hR
       go_wp2
       exact PurePost.mk' (.pointer (some ⟨w.heap.size + 1 + 1, 0, none⟩)) (by rfl) rfl
      case refine_3 =>
       intro _ _ k vs W hR hv
       have e0 : vs 0 = .pointer (some ⟨w.heap.size + 1 + 1, 0, none⟩) := hv ⟨0, .data⟩ (by simp) rfl (by decide)
       obtain ⟨c0o, _, c0z, c0g, c0b⟩ := hseen.out W (addR_g hR)
       clear hv hR
       simp only [e0]
       go_wp2
       exact PurePost.mk' (v1) (by simp [upd, e0]) rfl
      case refine_4 =>
       intro _ _ k vs W hR hv
       clear hv hR
       go_wp2
       exact PurePost.mk' (.slice (some ⟨zb, zo, none⟩) zs.length zc) (by rfl) rfl
      case refine_5 =>
       intro _ _ k vs W hR hv
       clear hv hR
       go_wp2
       exact PurePost.mk' (.int .i64 (m : Int)) (by rfl) rfl
      case refine_6 =>
       intro _ _ k vs W hR hv
       have e2 : vs 2 = .slice (some ⟨zb, zo, none⟩) zs.length zc := hv ⟨2, .data⟩ (by simp) rfl (by decide)
       have e3 : vs 3 = .int .i64 (m : Int) := hv ⟨3, .data⟩ (by simp) rfl (by decide)
       clear hv hR
       simp only [e2, e3]
       go_wp2
       exact PurePost.mk' (.pointer (some ⟨zb, zo + m, none⟩)) (by simp [upd, e2, e3]) rfl
      case refine_7 =>
       intro _ _ k vs W hR hv
       have e4 : vs 4 = .pointer (some ⟨zb, zo + m, none⟩) := hv ⟨4, .data⟩ (by simp) rfl (by decide)
       obtain ⟨c0o, _, c0z, c0g, c0b⟩ := hseen.out W (addR_g hR)
       clear hv hR
       simp only [e4]
       go_wp2
       exact PurePost.mk' (.int .i64 (t : Int)) (by simp [upd, e4]) rfl
      case refine_8 =>
       intro _ _ k vs W hR hv
       clear hv hR
       go_wp2
       exact PurePost.mk' (.pointer (some ⟨g, 0, none⟩)) (by rfl) rfl
      case refine_9 =>
       intro _ _ k vs W hR hv
       have e6 : vs 6 = .pointer (some ⟨g, 0, none⟩) := hv ⟨6, .data⟩ (by simp) rfl (by decide)
       clear hv hR
       simp only [e6]
       go_wp2
       exact PurePost.mk' (.pointer (some ⟨g, 0, none⟩)) (by simp [upd, e6]) rfl
      case refine_10 =>
       intro _ _ k vs W hR hv
       have e7 : vs 7 = .pointer (some ⟨g, 0, none⟩) := hv ⟨7, .data⟩ (by simp) rfl (by decide)
       clear hv hR
       simp only [e7]
       go_wp2
       exact PurePost.mk' (.pointer (some ⟨g, 0, none⟩)) (by simp [upd, e7]) rfl
      case refine_11 =>
       intro _ _ k vs W hR hv
       have e8 : vs 8 = .pointer (some ⟨g, 0, none⟩) := hv ⟨8, .data⟩ (by simp) rfl (by decide)
       obtain ⟨c0o, _, c0z, c0g, c0b⟩ := hseen.out W (addR_g hR)
       clear hv hR
       simp only [e8]
       go_wp2
       exact PurePost.mk' (.slice (some ⟨b0, 0, none⟩) x.thr.length c0) (by simp [upd, e8]) rfl
      case refine_12 =>
       intro _ _ k vs W hR hv
       clear hv hR
       go_wp2
       exact PurePost.mk' (.slice (some ⟨zb, zo, none⟩) zs.length zc) (by rfl) rfl
      case refine_13 =>
       intro _ _ k vs W hR hv
       clear hv hR
       go_wp2
       exact PurePost.mk' (.int .i64 (m : Int)) (by rfl) rfl
      case refine_14 =>
       intro _ _ k vs W hR hv
       have e10 : vs 10 = .slice (some ⟨zb, zo, none⟩) zs.length zc := hv ⟨10, .data⟩ (by simp) rfl (by decide)
       have e11 : vs 11 = .int .i64 (m : Int) := hv ⟨11, .data⟩ (by simp) rfl (by decide)
       clear hv hR
       simp only [e10, e11]
       go_wp2
       exact PurePost.mk' (.pointer (some ⟨zb, zo + m, none⟩)) (by simp [upd, e10, e11]) rfl
      case refine_15 =>
       intro _ _ k vs W hR hv
       have e12 : vs 12 = .pointer (some ⟨zb, zo + m, none⟩) := hv ⟨12, .data⟩ (by simp) rfl (by decide)
       obtain ⟨c0o, _, c0z, c0g, c0b⟩ := hseen.out W (addR_g hR)
       clear hv hR
       simp only [e12]
       go_wp2
       exact PurePost.mk' (.int .i64 (t : Int)) (by simp [upd, e12]) rfl
      case refine_16 =>
       intro _ _ k vs W hR hv
       have e9 : vs 9 = .slice (some ⟨b0, 0, none⟩) x.thr.length c0 := hv ⟨9, .data⟩ (by simp) rfl (by decide)
       have e13 : vs 13 = .int .i64 (t : Int) := hv ⟨13, .data⟩ (by simp) rfl (by decide)
       clear hv hR
       simp only [e9, e13]
       go_wp2
       exact PurePost.mk' (.pointer (some ⟨b0, t, none⟩)) (by simp [upd, e9, e13]) rfl
      case refine_17 =>
       intro _ _ k vs W hR hv
       have e14 : vs 14 = .pointer (some ⟨b0, t, none⟩) := hv ⟨14, .data⟩ (by simp) rfl (by decide)
       obtain ⟨c0o, _, c0z, c0g, c0b⟩ := hseen.out W (addR_g hR)
       clear hv hR
       simp only [e14]
       go_wp2
       exact PurePost.mk' (.int .i64 (pc : Int)) (by first | (rw [← e14]; rfl) | (simp [upd, e14])) rfl
      case refine_18 =>
       intro _ _ k vs W hR hv
       have e5 : vs 5 = .int .i64 (t : Int) := hv ⟨5, .data⟩ (by simp) rfl (by decide)
       have e15 : vs 15 = .int .i64 (pc : Int) := hv ⟨15, .data⟩ (by simp) rfl (by decide)
       clear hv hR
       simp only [e5, e15]
       go_wp2
       exact PurePost.mk' (.agg #[.int .i64 (t : Int), .int .i64 (pc : Int)]) (by simp [upd, e5, e15]) rfl
      case refine_19 => exact fun h => absurd (by decide) h
      case refine_20 => exact fun h => absurd (by decide) h
      case refine_21 =>
       intro _ _ k vs W hR hv
       clear hv hR
       go_wp2
       exact PurePost.mk' (.pointer (some ⟨w.heap.size + 1 + 1, 0, none⟩)) (by rfl) rfl
      case refine_22 => exact fun _ h => absurd h (by simp)
      case refine_23 =>
       intro k q o hq ho vs W hR hv
       match k, hq with
       | 0, hq =>
        obtain rfl : q = 17 := by simpa using hq.symm
        obtain rfl := Option.some.inj ho
        have hB : Below W8.heap.size W8 W := hR
        have e16 : vs 16 = .agg #[.int .i64 (t : Int), .int .i64 (pc : Int)] := hv ⟨16, .data⟩ (by simp) rfl (by decide)
        clear hv hR
        simp only [e16]
        go_wp2
        exact ChainPost.mk' (.slice (some ⟨W.heap.size, 0, none⟩) 1 1) (by first | (rw [← e16]; rfl) | (simp [upd, e16])) ⟨below_on hB (below_1 _ _), W.heap.size, rfl, cell_new2 W _ _ _⟩
       | 1, hq =>
        obtain rfl : q = 18 := by simpa using hq.symm
        obtain rfl := Option.some.inj ho
        obtain ⟨hB, b, e17, hcb⟩ := hR
        have e1 : vs 1 = v1 := hv ⟨1, .data⟩ (by simp) rfl (by decide)
        clear hv
        refine wpList_append_own_at _ rfl (.tmp 60) (.tmp 76) 27 rfl (w.heap.size + 3) 53 i2 (.agg #[.int .i64 0, .int .i64 0]) 2 16 Tryz.underlying27 hi2' hz2 hs2 hbb2 rfl (by omega) v1 es.length (doneV es) e1 (hO8.out.on hB).acts ⟨b, 0, none⟩ 1 1 [.int .i64 (t : Int), .int .i64 (pc : Int)] e17 rfl hcb (by simp [Value.oneCell']) hel1.out hel2.out (hel3.out W hB) ?_
        intro v' w3 h1 h2 h3 h4
        obtain ⟨va, vc, rfl⟩ := own_form h1
        refine wpList_nil ?_
        exact ChainPost.mk' _ (by rfl) ⟨grown_on hB h2, va, vc, rfl, h1⟩
       | k + 2, hq => simp at hq
      case refine_24 =>
       intro o ho vs W hR hv
       obtain rfl := Option.some.inj ho
       obtain ⟨hG, va, vc, e18, hrow⟩ := hR
       have e19 : vs 19 = .pointer (some ⟨w.heap.size + 1 + 1, 0, none⟩) := hv 19 (by simp) (by decide)
       have e0 : vs 0 = .pointer (some ⟨w.heap.size + 1 + 1, 0, none⟩) := hv 0 (by simp) (by decide)
       have e1 : vs 1 = v1 := hv 1 (by simp) (by decide)
       have e2 : vs 2 = .slice (some ⟨zb, zo, none⟩) zs.length zc := hv 2 (by simp) (by decide)
       have e3 : vs 3 = .int .i64 (m : Int) := hv 3 (by simp) (by decide)
       have e4 : vs 4 = .pointer (some ⟨zb, zo + m, none⟩) := hv 4 (by simp) (by decide)
       have e5 : vs 5 = .int .i64 (t : Int) := hv 5 (by simp) (by decide)
       have e6 : vs 6 = .pointer (some ⟨g, 0, none⟩) := hv 6 (by simp) (by decide)
       have e7 : vs 7 = .pointer (some ⟨g, 0, none⟩) := hv 7 (by simp) (by decide)
       have e8 : vs 8 = .pointer (some ⟨g, 0, none⟩) := hv 8 (by simp) (by decide)
       have e9 : vs 9 = .slice (some ⟨b0, 0, none⟩) x.thr.length c0 := hv 9 (by simp) (by decide)
       have e10 : vs 10 = .slice (some ⟨zb, zo, none⟩) zs.length zc := hv 10 (by simp) (by decide)
       have e11 : vs 11 = .int .i64 (m : Int) := hv 11 (by simp) (by decide)
       have e12 : vs 12 = .pointer (some ⟨zb, zo + m, none⟩) := hv 12 (by simp) (by decide)
       have e13 : vs 13 = .int .i64 (t : Int) := hv 13 (by simp) (by decide)
       have e14 : vs 14 = .pointer (some ⟨b0, t, none⟩) := hv 14 (by simp) (by decide)
       have e15 : vs 15 = .int .i64 (pc : Int) := hv 15 (by simp) (by decide)
       have e16 : vs 16 = .agg #[.int .i64 (t : Int), .int .i64 (pc : Int)] := hv 16 (by simp) (by decide)
       obtain ⟨c0o, c0f, _, _, _⟩ := hseen.out W hG
       have hO9 : Hid (OrW w (W.setCell ⟨w.heap.size + 1 + 1, 0, none⟩ (.slice va (es.length + 1) vc)) x ta tc (.slice va (es.length + 1) vc) (.slice none 0 0) (es ++ [⟨t, pc⟩]) []) := hO8.out.app (d := ⟨t, pc⟩) hrow hG
       have hS9 : Hid (ReadSt (W.setCell ⟨w.heap.size + 1 + 1, 0, none⟩ (.slice va (es.length + 1) vc)) (.pointer (some ⟨g, 0, none⟩)) s) := hseenS.out W _ hG
       clear hv hrow hG hseen hseenS
       simp only [e18, e0, e1, e2, e3, e4, e5, e6, e7, e8, e9, e10, e11, e12, e13, e14, e15, e16, e19]
       clear e18 e0 e1 e2 e3 e4 e5 e6 e7 e8 e9 e10 e11 e12 e13 e14 e15 e16 e19
       go_wp2_with fail
       generalize W.setCell ⟨w.heap.size + 1 + 1, 0, none⟩ (.slice va (es.length + 1) vc) = W9 at hO9 hS9 ⊢
       generalize vs 17 = r17
       have hact := orAct hoH.out hhH.out hxH.out hO9.out hS9.out hwf.out hp2.out
       refine wp_region_chain (by kernel_rfl) (fun vs => { tmps := #[.agg #[.int .i64 x.vars, .int .i64 x.vol, .int .i64 x.locks, .slice ta x.thr.length tc], .slice (some ⟨zb, zo, none⟩) zs.length zc, .pointer (some ⟨w.heap.size, 0, none⟩), undef, .pointer (some ⟨w.heap.size + 1, 0, none⟩), .pointer (some ⟨w.heap.size + 1 + 1, 0, none⟩), .pointer (some ⟨g, 0, none⟩), .int .i64 (m : Int), undef, undef, undef, undef, undef, undef, undef, undef, undef, .agg #[.slice none 0 0, .slice none 0 0], .agg #[.int .i64 x.vars, .int .i64 x.vol, .int .i64 x.locks, .slice ta x.thr.length tc], .bool true, .bool false, undef, .agg #[.int .i64 x.vars, .int .i64 x.vol, .int .i64 x.locks, .slice ta x.thr.length tc], p, u24, u25, u26, u27, u28, u29, u30, .bool true, u32, u33, .slice (some ⟨zb, zo, none⟩) zs.length zc, .int .i64 (m : Int), .pointer (some ⟨zb, zo + m, none⟩), .int .i64 (t : Int), .bool false, .bool false, .slice (some ⟨zb, zo, none⟩) zs.length zc, .int .i64 (m : Int), .pointer (some ⟨zb, zo + m, none⟩), .int .i64 (t : Int), .pointer (some ⟨w.heap.size, 3, none⟩), .slice ta x.thr.length tc, .int .i64 (x.thr.length : Int), .bool false, .bool false, .bool false, .agg #[.int .i64 x.vars, .int .i64 x.vol, .int .i64 x.locks, .slice ta x.thr.length tc], .pointer (some ⟨g, 0, none⟩), .slice (some ⟨zb, zo, none⟩) zs.length zc, .int .i64 (m : Int), .pointer (some ⟨zb, zo + m, none⟩), .int .i64 (t : Int), .bool true, .bool false, .bool false, .pointer (some ⟨w.heap.size + 1 + 1, 0, none⟩), v1, .slice (some ⟨zb, zo, none⟩) zs.length zc, .int .i64 (m : Int), .pointer (some ⟨zb, zo + m, none⟩), .int .i64 (t : Int), .pointer (some ⟨g, 0, none⟩), .pointer (some ⟨g, 0, none⟩), .pointer (some ⟨g, 0, none⟩), .slice (some ⟨b0, 0, none⟩) x.thr.length c0, .slice (some ⟨zb, zo, none⟩) zs.length zc, .int .i64 (m : Int), .pointer (some ⟨zb, zo + m, none⟩), .int .i64 (t : Int), .pointer (some ⟨b0, t, none⟩), .int .i64 (pc : Int), .agg #[.int .i64 (t : Int), .int .i64 (pc : Int)], r17, .slice va (es.length + 1) vc, .pointer (some ⟨w.heap.size + 1 + 1, 0, none⟩), vs 0, vs 1, vs 2, vs 3, vs 4, vs 5, vs 6, undef, undef, undef, undef, undef, undef, undef, undef, undef, undef, undef, undef, undef, undef, undef, undef, undef, undef, undef, undef, undef, undef, undef, undef, undef, undef, undef, undef, undef, undef, undef, undef, undef, undef, undef, undef, undef, undef, undef, undef, undef, undef, undef, undef, undef, undef, undef, undef, undef, undef, undef, undef, undef, undef, undef, undef, undef, undef, undef, undef, undef, undef, undef, undef, undef, undef, undef, undef, undef, undef, undef, undef, undef, undef, undef, undef, undef, undef, undef, undef, undef, undef, undef, undef, undef, undef, undef, undef, undef, undef, undef, undef, undef, undef, undef, undef, undef, undef, undef, undef, undef, undef, undef, undef, undef, undef, undef, undef, undef, undef, undef, undef, undef, undef, undef, undef, undef, undef, undef, undef, undef, undef, undef, undef, undef, undef, undef, undef, undef, undef, undef, undef, undef, undef, undef, undef, undef, undef, undef, undef, undef, undef, undef, undef, undef], defers := [] }) [6] (lv1 [.agg #[.int .i64 x.vars, .int .i64 x.vol, .int .i64 x.locks, .slice ta x.thr.length tc], .pointer (some ⟨g, 0, none⟩), .slice (some ⟨zb, zo, none⟩) zs.length zc, .int .i64 (m : Int), .pointer (some ⟨zb, zo + m, none⟩), .int .i64 (t : Int)]) (actR W9 (actS s t a)) (fun i => if i = 0 then u79 else if i = 1 then u80 else if i = 2 then u81 else if i = 3 then u82 else if i = 4 then u83 else if i = 5 then u84 else if i = 6 then u85 else undef) rfl (by kernel_rfl) ?_ (actR_loc _ _) (allAt_all ⟨?_, ?_, ?_, ?_, ?_, ?_, ?_, ?_, trivial⟩) ?_ ?_
       case refine_1 => exact Below.drew (Below.refl _ _)
       case refine_2 =>
        intro _ _ k vs W hR hv
        have hB := actR_below hR
        obtain ⟨l0, l1, l2, l3⟩ := (hO9.out.on hB).lit
        clear hv hR
        go_wp2
        exact PurePost.mk' (.agg #[.int .i64 x.vars, .int .i64 x.vol, .int .i64 x.locks, .slice ta x.thr.length tc]) (by rfl) rfl
       case refine_3 =>
        intro _ _ k vs W hR hv
        have hB := actR_below hR
        clear hv hR
        go_wp2
        exact PurePost.mk' (.pointer (some ⟨g, 0, none⟩)) (by rfl) rfl
       case refine_4 =>
        intro _ _ k vs W hR hv
        have hB := actR_below hR
        clear hv hR
        go_wp2
        exact PurePost.mk' (.slice (some ⟨zb, zo, none⟩) zs.length zc) (by rfl) rfl
       case refine_5 =>
        intro _ _ k vs W hR hv
        have hB := actR_below hR
        clear hv hR
        go_wp2
        exact PurePost.mk' (.int .i64 (m : Int)) (by rfl) rfl
       case refine_6 =>
        intro _ _ k vs W hR hv
        have hB := actR_below hR
        have e2 : vs 2 = .slice (some ⟨zb, zo, none⟩) zs.length zc := hv ⟨2, .data⟩ (by simp) rfl (by decide)
        have e3 : vs 3 = .int .i64 (m : Int) := hv ⟨3, .data⟩ (by simp) rfl (by decide)
        clear hv hR
        simp only [e2, e3]
        go_wp2
        exact PurePost.mk' (.pointer (some ⟨zb, zo + m, none⟩)) (by simp [upd, e2, e3]) rfl
       case refine_7 =>
        intro _ _ k vs W hR hv
        have hB := actR_below hR
        have e4 : vs 4 = .pointer (some ⟨zb, zo + m, none⟩) := hv ⟨4, .data⟩ (by simp) rfl (by decide)
        have qz := hq.out W (below_on hO9.out.hb hB)
        clear hv hR
        simp only [e4]
        go_wp2
        exact PurePost.mk' (.int .i64 (t : Int)) (by simp [upd, e4]) rfl
       case refine_8 => exact fun h => absurd (by decide) h
       case refine_9 => exact fun _ h => absurd h (by simp)
       case refine_10 =>
        intro k q o hq0 ho vs W hR hv
        match k, hq0 with
        | 0, hq0 =>
         obtain rfl : q = 6 := by simpa using hq0.symm
         obtain rfl := Option.some.inj ho
         have hB : Below W9.heap.size W9 W := hR
         have e0 : vs 0 = .agg #[.int .i64 x.vars, .int .i64 x.vol, .int .i64 x.locks, .slice ta x.thr.length tc] := hv ⟨0, .data⟩ (by simp) rfl (by decide)
         have e1 : vs 1 = .pointer (some ⟨g, 0, none⟩) := hv ⟨1, .data⟩ (by simp) rfl (by decide)
         have e5 : vs 5 = .int .i64 (t : Int) := hv ⟨5, .data⟩ (by simp) rfl (by decide)
         have hac := hact.out W hB
         clear hv hR
         simp only [e0, e1, e5]
         go_wp2_with (go_at_call 20; refine (show Calls _ _ _ _ _ from hac).mono ?_; rintro e w2 ⟨⟨p2, rfl, hs2r⟩, hb2⟩)
         exact ChainPost.mk' p2 (by simp [upd, e0, e1, e5]) ⟨below_on hB hb2, hs2r⟩
        | k + 1, hq0 => simp at hq0
       case refine_11 =>
        intro o ho vs W hR hv
        obtain rfl := Option.some.inj ho
        obtain ⟨hB, h60⟩ := hR
        have h7 : Hid (ReadSt W (vs 6) (actS s t a)) := h60
        have e0 : vs 0 = .agg #[.int .i64 x.vars, .int .i64 x.vol, .int .i64 x.locks, .slice ta x.thr.length tc] := hv 0 (by simp) (by decide)
        have e1 : vs 1 = .pointer (some ⟨g, 0, none⟩) := hv 1 (by simp) (by decide)
        have e2 : vs 2 = .slice (some ⟨zb, zo, none⟩) zs.length zc := hv 2 (by simp) (by decide)
        have e3 : vs 3 = .int .i64 (m : Int) := hv 3 (by simp) (by decide)
        have e4 : vs 4 = .pointer (some ⟨zb, zo + m, none⟩) := hv 4 (by simp) (by decide)
        have e5 : vs 5 = .int .i64 (t : Int) := hv 5 (by simp) (by decide)
        have hO10 : Hid (OrW w W x ta tc (.slice va (es.length + 1) vc) (.slice none 0 0) (es ++ [⟨t, pc⟩]) []) := hO9.out.on hB
        clear hv hB hO9 hS9 hact h60
        simp only [e0, e1, e2, e3, e4, e5]
        clear e0 e1 e2 e3 e4 e5
        generalize vs 6 = p7 at h7 ⊢
        go_wp2
        go_roundw
        case rel => exact ⟨m + 1, _, _, _, hlt, by go_num, hO10, h7, hF2⟩
        case measure => simp [intOf]; omega
  ·have hdt : decide (m < (zs.take 4000).length) = false := decide_eq_false hlt
   rw [hdt]
   clear hdt
   obtain rfl := (fol_end hF.out hm hlt).symm
   clear hF hS hm hlt hzH hh2H hlen4
   obtain ⟨da, dc, rfl, hdc0, hda⟩ := hO.out.done
   obtain ⟨n, hn⟩ : ∃ n, n = ds.length := ⟨_, rfl⟩
   have hnH : Hid (n = ds.length) := hn
   rw [← hn] at hO hlen hdc0
   clear hn hda
   have hdc : (n : Int) ≤ (dc : Int) := Int.ofNat_le.2 hdc0
   have hn12 : (n : Int) ≤ 12 := Int.ofNat_le.2 hlen.out
   have hn64 : n ≤ 64 := Nat.le_trans hlen.out (by decide)
   have hnn : (0 : Int) ≤ (n : Int) := Int.natCast_nonneg n
   have o0 : wr.cell? ⟨w.heap.size + 1 + 1, 0, none⟩ = some (.slice da n dc) := hO.out.o0
   have hmk := makeBr n hn64 wr
   have hM0 : Hid (MatW wr (wr.alloc (.cells (Array.replicate n (.slice none 0 0)) 56)) wr.heap.size n n (fun _ => 0) (fun _ _ => false)) := MatW.start wr n
   have hA0 : Hid (AllOk (edgeE x ds) n n (fun _ _ => false)) := fun a h1 h2 => absurd h2 (Nat.not_lt_of_le h1)
   generalize wr.alloc (.cells (Array.replicate n (.slice none 0 0)) 56) = W1 at hmk hM0
   obtain ⟨M, hMe⟩ : ∃ M, M = wr.heap.size := ⟨_, rfl⟩
   rw [← hMe] at hmk hM0
   clear hMe
   obtain ⟨E, hE⟩ : ∃ E, E = edgeE x ds := ⟨_, rfl⟩
   have hEH : Hid (E = edgeE x ds) := hE
   rw [← hE] at hA0
   clear hE
   go_wp2_with fail
   clear o0 hmk
   go_loopw [10] (fun iv w2 => ∃ (i0 : Nat) (gs : Nat → Nat) (bs : Nat → Nat → Bool), i0 ≤ n ∧ iv = .int .i64 ((i0 : Int) - 1) ∧ Hid (MatW wr w2 M n i0 gs bs) ∧ Hid (AllOk E n i0 bs)) (fun iv _ => (intOf iv + 1).toNat)
   case atStart => exact ⟨n, _, _, Nat.le_refl _, rfl, hM0, hA0⟩
   case round =>
    rename World => w2
    clear hM0 hA0
    obtain ⟨i0, gs, bs, hi0, hiv, hM, hA⟩ := hrel
    cases i0 with
    | zero =>
     obtain rfl := hiv.trans pred_zero
     clear hiv
     have hT5 : Hid (MatR w2 M n 0 gs bs) := hM.out.mat
     have hO5 : Hid (OrW w w2 x ta tc (.slice da n dc) (.slice none 0 0) ds (foundR x ds 0 (0 + 1))) := (foundR_start x ds).symm ▸ hO.out.on hM.out.hb
     clear hM hO hi0
     go_wp2_with fail
     go_loopw [13] (fun iv w5 => ∃ (i : Nat) (ra : Option Addr) (rn rc : Nat), i ≤ n ∧ iv = .int .i64 (i : Int) ∧ Hid (OrW w w5 x ta tc (.slice da n dc) (.slice ra rn rc) ds (foundR x ds i (i + 1))) ∧ Hid (MatR w5 M n 0 gs bs)) (fun iv _ => n - (intOf iv).toNat)
     case atStart => exact ⟨0, none, 0, 0, Nat.zero_le _, rfl, hO5, hT5⟩
     case round =>
      rename World => w5
      clear hO5 hT5
      obtain ⟨i, ra, rn, rc, hi, rfl, hO6, hT6⟩ := hrel
      by_cases hlt : i < n
      ·have hlt' : (i : Int) < (n : Int) := Int.ofNat_lt.2 hlt
       have hi0' : (0 : Int) ≤ (i : Int) := Int.natCast_nonneg i
       have hids : i < ds.length := hnH.out ▸ hlt
       go_wp2_with fail
       go_loopw [14] (fun kv w6 => ∃ (k : Nat) (ra : Option Addr) (rn rc : Nat), i < k ∧ k ≤ n ∧ kv = .int .i64 (k : Int) ∧ Hid (OrW w w6 x ta tc (.slice da n dc) (.slice ra rn rc) ds (foundR x ds i k)) ∧ Hid (MatR w6 M n 0 gs bs)) (fun kv _ => n - (intOf kv).toNat)
       case atStart => exact ⟨i + 1, ra, rn, rc, Nat.lt_succ_self i, hlt, by go_num, hO6, hT6⟩
       case round =>
        rename World => w6
        clear hO6 hT6
        obtain ⟨k, ra, rn, rc, hik, hkn, rfl, hO, hT⟩ := hrel
        by_cases hlt2 : k < n
        ·have hlt2' : (k : Int) < (n : Int) := Int.ofNat_lt.2 hlt2
         have hk0' : (0 : Int) ≤ (k : Int) := Int.natCast_nonneg k
         have hkds : k < ds.length := hnH.out ▸ hlt2
         obtain ⟨db, rfl⟩ := hO.out.act2 hids
         obtain ⟨a, b, b1, o1, la, ua, b2, o2, lb, ub, b3, o3, rfl, haH, hbH, ⟨n1, n2, n3, n4⟩, hAct⟩ := orActs hhH.out hxH.out hin.out hids hkds
         have o0 : w6.cell? ⟨w.heap.size + 1 + 1, 0, none⟩ = some (.slice (some ⟨db, 0, none⟩) n dc) := hO.out.o0
         obtain ⟨d0, d1⟩ := hO.out.actC hids
         go_upto_region 33 with fail
         have hX : Hid (BoxD w (w6.alloc (.cells #[.int .i64 (ds[i].t : Int), .int .i64 (ds[i].k : Int)] 53)) w6.heap.size ds[i]) := BoxD.new w w6 _ _
         have hOa : Hid (OrW w (w6.alloc (.cells #[.int .i64 (ds[i].t : Int), .int .i64 (ds[i].k : Int)] 53)) x (some ⟨b1, o1, none⟩) tc (.slice (some ⟨db, 0, none⟩) n dc) (.slice ra rn rc) ds (foundR x ds i k)) := hO.out.on (below_1 _ _)
         have hTa : Hid (MatR (w6.alloc (.cells #[.int .i64 (ds[i].t : Int), .int .i64 (ds[i].k : Int)] 53)) M n 0 gs bs) := hT.out.on (below_1 _ _)
         clear o0 d0 d1 hO hT
         generalize w6.alloc (.cells #[.int .i64 (ds[i].t : Int), .int .i64 (ds[i].k : Int)] 53) = W6 at hX hOa hTa ⊢
         generalize w6.heap.size = X at hX ⊢
         have o0 : W6.cell? ⟨w.heap.size + 1 + 1, 0, none⟩ = some (.slice (some ⟨db, 0, none⟩) n dc) := hOa.out.o0
         obtain ⟨d0, d1⟩ := hOa.out.actC hkds
         go_upto_region 34 with fail
         have hY7 : Hid (BoxD w (W6.alloc (.cells #[.int .i64 (ds[k].t : Int), .int .i64 (ds[k].k : Int)] 53)) W6.heap.size ds[k]) := BoxD.new w W6 _ _
         have hX7 : Hid (BoxD w (W6.alloc (.cells #[.int .i64 (ds[k].t : Int), .int .i64 (ds[k].k : Int)] 53)) X ds[i]) := hX.out.on (below_1 _ _)
         have hO7 : Hid (OrW w (W6.alloc (.cells #[.int .i64 (ds[k].t : Int), .int .i64 (ds[k].k : Int)] 53)) x (some ⟨b1, o1, none⟩) tc (.slice (some ⟨db, 0, none⟩) n dc) (.slice ra rn rc) ds (foundR x ds i k)) := hOa.out.on (below_1 _ _)
         have hT7 : Hid (MatR (W6.alloc (.cells #[.int .i64 (ds[k].t : Int), .int .i64 (ds[k].k : Int)] 53)) M n 0 gs bs) := hTa.out.on (below_1 _ _)
         clear o0 d0 d1 hOa hTa hX
         generalize W6.alloc (.cells #[.int .i64 (ds[k].t : Int), .int .i64 (ds[k].k : Int)] 53) = W7 at hX7 hY7 hO7 hT7 ⊢
         generalize W6.heap.size = Y at hY7 ⊢
         obtain ⟨l0, l1, l2, l3⟩ := hO7.out.lit
         obtain ⟨x0, x1, _⟩ := hX7.out
         obtain ⟨y0, y1, _⟩ := hY7.out
         have m1 := hT7.out.hd (Nat.zero_le i) hlt
         have m2 := (hT7.out.bit (Nat.zero_le i) hlt hlt2).1
         rw [hA.out i (Nat.zero_le i) hlt k hlt2, hEH.out] at m2
         obtain ⟨⟨c0, a0, a1, a2⟩, ⟨c1, e0, e1, e2⟩⟩ := hAct.out W7 hO7.out.hb
         replace l0 := cell_regrown l0
         replace l1 := cell_regrown l1
         replace l2 := cell_regrown l2
         replace l3 := cell_regrown l3
         replace x0 := cell_regrown x0
         replace x1 := cell_regrown x1
         replace y0 := cell_regrown y0
         replace y1 := cell_regrown y1
         replace m1 := cell_regrown m1
         replace m2 := cell_regrown m2
         replace c0 := cell_regrown c0
         replace a0 := cell_regrown a0
         replace a1 := cell_regrown a1
         replace a2 := cell_regrown a2
         replace c1 := cell_regrown c1
         replace e0 := cell_regrown e0
         replace e1 := cell_regrown e1
         replace e2 := cell_regrown e2
         by_cases hst : ds[i].t = ds[k].t
         ·have hne : ((ds[i].t : Int) != (ds[k].t : Int)) = false := int_ne_false hst
          have hno : Hid (foundR x ds i (k + 1) = foundR x ds i k) := foundR_no hik (raceAt_same hids hkds hst)
          clear hst
          refine wp_region_quiet_below (by kernel_rfl) (by kernel_rfl) ?_
          repeat (first | go_big_quiet_step (fail) | quiet_step (fail))
          refine wpQuiet_nil ?_
          intro _ hw'
          obtain ⟨⟨dq, osq⟩, hw''⟩ := hw'
          subst hw''
          have hO8 : Hid (OrW w (Sort.grow (redrawn W7 dq) osq) x (some ⟨b1, o1, none⟩) tc (.slice (some ⟨db, 0, none⟩) n dc) (.slice ra rn rc) ds (foundR x ds i (k + 1))) := hno.out.symm ▸ hO7.out.on (below_regrown W7 dq osq)
          have hT8 : Hid (MatR (Sort.grow (redrawn W7 dq) osq) M n 0 gs bs) := hT7.out.on (below_regrown W7 dq osq)
          clear l0 l1 l2 l3 x0 x1 y0 y1 m1 m2 c0 a0 a1 a2 c1 e0 e1 e2 hT7 hO7 hX7 hY7
          generalize Sort.grow (redrawn W7 dq) osq = W8 at hO8 hT8 ⊢
          go_wp2
          go_roundw
          case rel => exact ⟨k + 1, ra, rn, rc, Nat.lt_succ_of_lt hik, hlt2, by go_num, hO8, hT8⟩
          case measure => simp [intOf]; omega
         ·have hne : ((ds[i].t : Int) != (ds[k].t : Int)) = true := int_ne_true hst
          cases hpt : pthB (edgeE x ds) i k with
          | true =>
           rw [hpt] at m2
           have hno : Hid (foundR x ds i (k + 1) = foundR x ds i k) := foundR_no hik (raceAt_pth hids hkds hpt)
           clear hst hpt
           refine wp_region_quiet_below (by kernel_rfl) (by kernel_rfl) ?_
           repeat (first | go_big_quiet_step (fail) | quiet_step (fail))
           refine wpQuiet_nil ?_
           intro _ hw'
           obtain ⟨⟨dq, osq⟩, hw''⟩ := hw'
           subst hw''
           have hO8 : Hid (OrW w (Sort.grow (redrawn W7 dq) osq) x (some ⟨b1, o1, none⟩) tc (.slice (some ⟨db, 0, none⟩) n dc) (.slice ra rn rc) ds (foundR x ds i (k + 1))) := hno.out.symm ▸ hO7.out.on (below_regrown W7 dq osq)
           have hT8 : Hid (MatR (Sort.grow (redrawn W7 dq) osq) M n 0 gs bs) := hT7.out.on (below_regrown W7 dq osq)
           clear l0 l1 l2 l3 x0 x1 y0 y1 m1 m2 c0 a0 a1 a2 c1 e0 e1 e2 hT7 hO7 hX7 hY7
           generalize Sort.grow (redrawn W7 dq) osq = W8 at hO8 hT8 ⊢
           go_wp2
           go_roundw
           case rel => exact ⟨k + 1, ra, rn, rc, Nat.lt_succ_of_lt hik, hlt2, by go_num, hO8, hT8⟩
           case measure => simp [intOf]; omega
          | false =>
           rw [hpt] at m2
           have hra := raceAt_conf hids hkds haH.out hbH.out hst hpt
           clear hst hpt
           cases hcb : conflictB x.vol a b with
           | false =>
            have hno : Hid (foundR x ds i (k + 1) = foundR x ds i k) := foundR_no hik (hra.trans (by rw [hcb]; rfl))
            have cF := orConf x (some ⟨b1, o1, none⟩) tc a b hcb W7
            clear hra hcb
            refine wp_region_quiet_below (by kernel_rfl) (by kernel_rfl) ?_
            repeat (first | go_big_quiet_step (exact cF _ _) | quiet_step (exact cF _ _))
            refine wpQuiet_nil ?_
            intro _ hw'
            obtain ⟨⟨dq, osq⟩, hw''⟩ := hw'
            subst hw''
            have hO8 : Hid (OrW w (Sort.grow (redrawn W7 dq) osq) x (some ⟨b1, o1, none⟩) tc (.slice (some ⟨db, 0, none⟩) n dc) (.slice ra rn rc) ds (foundR x ds i (k + 1))) := hno.out.symm ▸ hO7.out.on (below_regrown W7 dq osq)
            have hT8 : Hid (MatR (Sort.grow (redrawn W7 dq) osq) M n 0 gs bs) := hT7.out.on (below_regrown W7 dq osq)
            clear cF
            clear l0 l1 l2 l3 x0 x1 y0 y1 m1 m2 c0 a0 a1 a2 c1 e0 e1 e2 hT7 hO7 hX7 hY7
            generalize Sort.grow (redrawn W7 dq) osq = W8 at hO8 hT8 ⊢
            go_wp2
            go_roundw
            case rel => exact ⟨k + 1, ra, rn, rc, Nat.lt_succ_of_lt hik, hlt2, by go_num, hO8, hT8⟩
            case measure => simp [intOf]; omega
           | true =>
            have hyes : Hid (raceAt x ds i k = [raceD ds[i] ds[k]]) := hra.trans (by rw [hcb]; rfl)
            have cF := orConf x (some ⟨b1, o1, none⟩) tc a b hcb W7
            clear hra hcb
            refine wp_region_quiet_below (by kernel_rfl) (by kernel_rfl) ?_
            repeat (first | go_big_quiet_step (exact cF _ _) | quiet_step (exact cF _ _))
            refine wpQuiet_nil ?_
            intro _ hw'
            obtain ⟨⟨dq, osq⟩, hw''⟩ := hw'
            subst hw''
            have hO8 : Hid (OrW w (Sort.grow (redrawn W7 dq) osq) x (some ⟨b1, o1, none⟩) tc (.slice (some ⟨db, 0, none⟩) n dc) (.slice ra rn rc) ds (foundR x ds i k)) := hO7.out.on (below_regrown W7 dq osq)
            have hT8 : Hid (MatR (Sort.grow (redrawn W7 dq) osq) M n 0 gs bs) := hT7.out.on (below_regrown W7 dq osq)
            have hX8 : Hid (BoxD w (Sort.grow (redrawn W7 dq) osq) X ds[i]) := hX7.out.on (below_regrown W7 dq osq)
            have hY8 : Hid (BoxD w (Sort.grow (redrawn W7 dq) osq) Y ds[k]) := hY7.out.on (below_regrown W7 dq osq)
            clear cF
            clear l0 l1 l2 l3 x0 x1 y0 y1 m1 m2 c0 a0 a1 a2 c1 e0 e1 e2 hT7 hO7 hX7 hY7
            generalize Sort.grow (redrawn W7 dq) osq = W8 at hO8 hT8 hX8 hY8 ⊢
            obtain ⟨x0, x1, _⟩ := hX8.out
            obtain ⟨y0, y1, _⟩ := hY8.out
            have o1c : W8.cell? ⟨w.heap.size + 1 + 1, 1, none⟩ = some (.slice ra rn rc) := hO8.out.o1
            have hra := orRace hO8.out (hnH.out ▸ hlen.out) hids hkds hik hyes.out
            go_wp2_with (first
             | (go_at_call 23; refine (show Calls _ _ _ _ _ from hra.out).mono ?_; rintro e W9 ⟨rb, rm, rd, rfl, hR9, hb9⟩; have hO9 : Hid (OrW w W9 x (some ⟨b1, o1, none⟩) tc (.slice (some ⟨db, 0, none⟩) n dc) (.slice ra rn rc) ds (foundR x ds i k)) := hO8.out.on hb9; have hT9 : Hid (MatR W9 M n 0 gs bs) := hT8.out.on hb9; clear hb9 hO8 hT8 x0 x1 y0 y1 o1c hra hX8 hY8; have o2c : W9.cell? ⟨w.heap.size + 1 + 1, 1, none⟩ = some (.slice ra rn rc) := hO9.out.o1; have o2f : W9.frozen? ⟨w.heap.size + 1 + 1, 1, none⟩ = false := hO9.out.fz 1))
            have hO10 : Hid (OrW w (W9.setCell ⟨w.heap.size + 1 + 1, 1, none⟩ (.slice rb rm rd)) x (some ⟨b1, o1, none⟩) tc (.slice (some ⟨db, 0, none⟩) n dc) (.slice rb rm rd) ds (foundR x ds i (k + 1))) := hO9.out.race hR9.out
            have hT10 : Hid (MatR (W9.setCell ⟨w.heap.size + 1 + 1, 1, none⟩ (.slice rb rm rd)) M n 0 gs bs) := hT9.out.race hO9.out
            go_roundw
            case rel => exact ⟨k + 1, rb, rm, rd, Nat.lt_succ_of_lt hik, hlt2, by go_num, hO10, hT10⟩
            case measure => simp [intOf]; omega
        ·have hke : k = n := Nat.le_antisymm hkn (Nat.le_of_not_lt hlt2)
         subst hke
         have hO8 : Hid (OrW w w6 x ta tc (.slice da k dc) (.slice ra rn rc) ds (foundR x ds (i + 1) (i + 1 + 1))) := (found_next hnH.out i) ▸ hO.out
         clear hO
         go_wp2
         go_roundw
         case rel => exact ⟨i + 1, ra, rn, rc, hlt, by go_num, hO8, hT⟩
         case measure => simp [intOf]; omega
      ·have hie : i = n := Nat.le_antisymm hi (Nat.le_of_not_lt hlt)
       subst hie
       have hfe := found_end hnH.out (x := x)
       obtain ⟨hth, hf1, hf2, hf3⟩ := hO6.out.final
       have o0 : w5.cell? ⟨w.heap.size + 1 + 1, 0, none⟩ = some (.slice da i dc) := hO6.out.o0
       have o1 : w5.cell? ⟨w.heap.size + 1 + 1, 1, none⟩ = some (.slice ra rn rc) := hO6.out.o1
       have hfin : Hid _ := And.intro hf1 (And.intro hf2 hf3)
       have hthH : Hid _ := hth
       clear hO6 hT6 hf1 hf2 hf3 hth
       go_wp2_with (first
        | (refine wpList_store_mid rfl 30 _ _ rfl (w.heap.size + 1) 0 #[.slice da i dc, .slice ra rn rc] rfl rfl hthH.out (by kernel_rfl) (all_oneCell_toArray (cs := [.slice da i dc, .slice ra rn rc]) (by simp [Value.oneCell'])) ?_))
       refine bodyPost_ret (v := .agg #[.slice da i dc, .slice ra rn rc]) (results_cell_mid rfl _ _ (w.heap.size + 1) [.slice da i dc, .slice ra rn rc] _ rfl (World.rangeAt_setCells_same w5 (w.heap.size + 1) 0 [.slice da i dc, .slice ra rn rc] hthH.out) Tryz.underlying30 rfl (by kernel_rfl)) rfl ?_
       refine ⟨_, _, rfl, hfin.out.1, ?_, hfin.out.2.2⟩
       rw [← hfe.out]
       exact hfin.out.2.1
    | succ i =>
     obtain rfl := hiv.trans (pred_int i)
     clear hiv
     have hil : i < n := hi0
     have hids : i < ds.length := hnH.out ▸ hil
     have hin' : (i : Int) < (n : Int) := Int.ofNat_lt.2 hil
     have hi0' : (0 : Int) ≤ (i : Int) := Int.natCast_nonneg i
     obtain ⟨W3, hmk, hc3, hf3, hM3⟩ := rowStep hM.out hil hn64
     have hR3 : Hid _ := hA.out.row
     clear hM hA
     go_wp2_with fail
     clear hmk hc3 hf3
     generalize W3.setCell ⟨M, i, none⟩ (.slice (some ⟨w2.heap.size, 0, none⟩) n n) = W4 at hM3 ⊢
     generalize (fun a => if a = i then w2.heap.size else gs a) = gs2 at hM3
     generalize (fun a j => if a = i then false else bs a j) = bs2 at hM3 hR3
     go_loopw [11] (fun kv w3 => ∃ (k : Nat) (bs : Nat → Nat → Bool), i < k ∧ k ≤ n ∧ kv = .int .i64 (k : Int) ∧ Hid (MatW wr w3 M n i gs2 bs) ∧ Hid (RowOk E n i (rowB E i k) bs)) (fun kv _ => n - (intOf kv).toNat)
     case atStart => exact ⟨i + 1, bs2, Nat.lt_succ_self i, hil, by go_num, hM3, hR3⟩
     case round =>
      rename World => w3
      clear hM3 hR3
      obtain ⟨k, bs, hik, hkn, rfl, hM, hR⟩ := hrel
      by_cases hlt : k < n
      ·have hlt' : (k : Int) < (n : Int) := Int.ofNat_lt.2 hlt
       have hk0' : (0 : Int) ≤ (k : Int) := Int.natCast_nonneg k
       have hkds : k < ds.length := hnH.out ▸ hlt
       have hO3 : Hid (OrW w w3 x ta tc (.slice da n dc) (.slice none 0 0) ds []) := hO.out.on hM.out.hb
       obtain ⟨db, rfl⟩ := hO3.out.act2 hids
       obtain ⟨l0, l1, l2, l3⟩ := hO3.out.lit
       have o0 : w3.cell? ⟨w.heap.size + 1 + 1, 0, none⟩ = some (.slice (some ⟨db, 0, none⟩) n dc) := hO3.out.o0
       obtain ⟨d0, d1⟩ := hO3.out.actC hids
       obtain ⟨d2, d3⟩ := hO3.out.actC hkds
       replace l0 := cell_regrown l0
       replace l1 := cell_regrown l1
       replace l2 := cell_regrown l2
       replace l3 := cell_regrown l3
       replace o0 := cell_regrown o0
       replace d0 := cell_regrown d0
       replace d1 := cell_regrown d1
       replace d2 := cell_regrown d2
       replace d3 := cell_regrown d3
       cases hee : edgeE x ds i k with
       | false =>
        have cE := orEdge hoH.out hhH.out hxH.out hO3.out.hb hin.out hids hkds hee
        have hR2 : Hid (RowOk E n i (rowB E i (k + 1)) bs) := hR.out.no (hEH.out ▸ hee)
        clear hR hee hO3
        go_upto_region 20 with fail
        refine wp_region_quiet_below (by kernel_rfl) (by kernel_rfl) ?_
        repeat (first | go_big_quiet_step (exact cE _ _) | quiet_step (exact cE _ _))
        refine wpQuiet_nil ?_
        intro _ hw'
        obtain ⟨⟨dq, osq⟩, hw''⟩ := hw'
        subst hw''
        have hM8 : Hid (MatW wr (Sort.grow (redrawn w3 dq) osq) M n i gs2 bs) := hM.out.on (below_regrown w3 dq osq)
        clear cE l0 l1 l2 l3 o0 d0 d1 d2 d3 hM
        generalize Sort.grow (redrawn w3 dq) osq = W8 at hM8 ⊢
        go_wp2
        go_roundw
        case rel => exact ⟨k + 1, bs, Nat.lt_succ_of_lt hik, hlt, by go_num, hM8, hR2⟩
        case measure => simp [intOf]; omega
       | true =>
        have cE := orEdge hoH.out hhH.out hxH.out hO3.out.hb hin.out hids hkds hee
        have hEt : Hid (E i k = true) := hEH.out ▸ hee
        have hR2 : Hid (RowOk E n i (midB E i k (k + 1)) (updB bs i k true)) := hR.out.yes
        clear hR hee hO3
        go_upto_region 20 with fail
        refine wp_region_quiet_below (by kernel_rfl) (by kernel_rfl) ?_
        repeat (first | go_big_quiet_step (exact cE _ _) | quiet_step (exact cE _ _))
        refine wpQuiet_nil ?_
        intro _ hw'
        obtain ⟨⟨dq, osq⟩, hw''⟩ := hw'
        subst hw''
        have hM8 : Hid (MatW wr (Sort.grow (redrawn w3 dq) osq) M n i gs2 bs) := hM.out.on (below_regrown w3 dq osq)
        clear cE l0 l1 l2 l3 o0 d0 d1 d2 d3 hM
        generalize Sort.grow (redrawn w3 dq) osq = W8 at hM8 ⊢
        have m1 := hM8.out.mat.hd (Nat.le_refl i) hil
        obtain ⟨m2, m3⟩ := hM8.out.mat.bit (Nat.le_refl i) hil hlt
        have hM9 : Hid (MatW wr (W8.setCell ⟨gs2 i, k, none⟩ (.bool true)) M n i gs2 (updB bs i k true)) := hM8.out.set (Nat.le_refl i) hil hlt true
        go_wp2_with fail
        clear m1 m2 m3 hM8
        generalize W8.setCell ⟨gs2 i, k, none⟩ (.bool true) = W9 at hM9 ⊢
        generalize updB bs i k true = bs3 at hM9 hR2
        go_loopw [12] (fun jv w4 => ∃ (j : Nat) (bs : Nat → Nat → Bool), k < j ∧ j ≤ n ∧ jv = .int .i64 (j : Int) ∧ Hid (MatW wr w4 M n i gs2 bs) ∧ Hid (RowOk E n i (midB E i k j) bs)) (fun jv _ => n - (intOf jv).toNat)
        case atStart => exact ⟨k + 1, bs3, Nat.lt_succ_self k, hlt, by go_num, hM9, hR2⟩
        case round =>
         rename World => w4
         clear hM9 hR2
         obtain ⟨j, bs, hkj, hjn, rfl, hM, hR⟩ := hrel
         by_cases hlj : j < n
         ·have hlj' : (j : Int) < (n : Int) := Int.ofNat_lt.2 hlj
          have hj0' : (0 : Int) ≤ (j : Int) := Int.natCast_nonneg j
          have hR2 : Hid (RowOk E n i (midB E i k (j + 1)) (updB bs i j (bs i j || bs k j))) := hR.out.step hkj hlj hik
          have hMs : Hid (∀ W, Below w4.heap.size w4 W → ∀ b, MatW wr (W.setCell ⟨gs2 i, j, none⟩ (.bool b)) M n i gs2 (updB bs i j b)) := fun W hW b => (hM.out.on hW).set (Nat.le_refl i) hil hlj b
          have hcl0 : Hid (∀ W, Below w4.heap.size w4 W → W.cell? ⟨M, i, none⟩ = some (.slice (some ⟨gs2 i, 0, none⟩) n n) ∧ W.cell? ⟨M, k, none⟩ = some (.slice (some ⟨gs2 k, 0, none⟩) n n) ∧ W.cell? ⟨gs2 i, j, none⟩ = some (.bool (bs i j)) ∧ W.cell? ⟨gs2 k, j, none⟩ = some (.bool (bs k j)) ∧ W.frozen? ⟨gs2 i, j, none⟩ = false) := fun W hW => ⟨(hM.out.on hW).mat.hd (Nat.le_refl i) hil, (hM.out.on hW).mat.hd (Nat.le_of_lt hik) hlt, ((hM.out.on hW).mat.bit (Nat.le_refl i) hil hlj).1, ((hM.out.on hW).mat.bit (Nat.le_of_lt hik) hlt hlj).1, ((hM.out.on hW).mat.bit (Nat.le_refl i) hil hlj).2⟩
          clear hR hM
          generalize hb2 : bs k j = b2 at hcl0 hR2
          clear hb2
          cases hb1 : bs i j with
          | true =>
           rw [hb1] at hcl0 hR2
           rw [show (true || b2) = true from rfl] at hR2
           have hcl := hcl0
           clear hb1 hcl0
           go_upto_region 25 with fail
           refine wp_region_chain (by kernel_rfl) (fun vs => { tmps := #[Value.agg #[Value.int IntKind.i64 x.vars, Value.int IntKind.i64 x.vol, Value.int IntKind.i64 x.locks, Value.slice ta x.thr.length tc], Value.slice za zs.length zc, Value.pointer (some { block := w.heap.size, off := 0 }), undef, Value.pointer (some { block := w.heap.size + 1, off := 0 }), Value.pointer (some { block := w.heap.size + 1 + 1, off := 0 }), u6, Value.int IntKind.i64 ↑m, Value.int IntKind.i64 ↑n, Value.slice (some { block := M, off := 0 }) n n, Value.int IntKind.i64 ↑i, Value.int IntKind.i64 ↑k, Value.int IntKind.i64 ↑j, undef, undef, undef, undef, Value.agg #[Value.slice none 0 0, Value.slice none 0 0], Value.agg #[Value.int IntKind.i64 x.vars, Value.int IntKind.i64 x.vol, Value.int IntKind.i64 x.locks, Value.slice ta x.thr.length tc], Value.bool true, Value.bool false, undef, Value.agg #[Value.int IntKind.i64 x.vars, Value.int IntKind.i64 x.vol, Value.int IntKind.i64 x.locks, Value.slice ta x.thr.length tc], p, u24, u25, u26, u27, u28, u29, u30, Value.bool false, u32, u33, u34, u35, u36, u37, u38, u39, u40, u41, u42, u43, u44, u45, u46, u47, u48, u49, u50, u51, u52, u53, u54, u55, u56, u57, u58, u59, u60, u61, u62, u63, u64, u65, u66, u67, u68, u69, u70, u71, u72, u73, u74, u75, u76, u77, u78, u79, u80, u81, u82, u83, u84, u85, Value.pointer (some { block := w.heap.size + 1 + 1, off := 0 }), Value.slice (some { block := db, off := 0 }) n dc, Value.int IntKind.i64 ↑n, Value.int IntKind.i64 ↑n, Value.slice (some { block := M, off := 0 }) n n, Value.int IntKind.i64 ↑n, Value.int IntKind.i64 (↑n - 1), Value.int IntKind.i64 ↑i, Value.bool true, u95, u96, Value.slice (some { block := M, off := 0 }) n n, Value.int IntKind.i64 ↑i, Value.int IntKind.i64 ↑n, Value.slice (some { block := w2.heap.size, off := 0 }) n n, Value.pointer (some { block := M, off := i }), Value.int IntKind.i64 ↑i, Value.int IntKind.i64 (↑i + 1), Value.int IntKind.i64 ↑k, Value.int IntKind.i64 ↑n, Value.bool true, u107, u108, Value.agg #[Value.int IntKind.i64 x.vars, Value.int IntKind.i64 x.vol, Value.int IntKind.i64 x.locks, Value.slice ta x.thr.length tc], Value.pointer (some { block := w.heap.size + 1 + 1, off := 0 }), Value.slice (some { block := db, off := 0 }) n dc, Value.int IntKind.i64 ↑i, Value.pointer (some { block := db, off := i * 2 }), Value.agg #[Value.int IntKind.i64 ↑ds[i].t, Value.int IntKind.i64 ↑ds[i].k], Value.pointer (some { block := w.heap.size + 1 + 1, off := 0 }), Value.slice (some { block := db, off := 0 }) n dc, Value.int IntKind.i64 ↑k, Value.pointer (some { block := db, off := k * 2 }), Value.agg #[Value.int IntKind.i64 ↑ds[k].t, Value.int IntKind.i64 ↑ds[k].k], Value.bool true, Value.bool false, Value.slice (some { block := M, off := 0 }) n n, Value.int IntKind.i64 ↑i, Value.pointer (some { block := M, off := i }), Value.slice (some { block := gs2 i, off := 0 }) n n, Value.int IntKind.i64 ↑k, Value.pointer (some { block := gs2 i, off := k }), Value.int IntKind.i64 ↑k, Value.int IntKind.i64 (↑k + 1), Value.int IntKind.i64 ↑j, Value.int IntKind.i64 ↑n, Value.bool true, u133, u134, vs 0, vs 1, vs 2, vs 3, vs 4, vs 5, vs 6, vs 7, vs 8, vs 9, vs 10, vs 11, vs 12, vs 13, vs 14, vs 15, vs 16, vs 17, vs 18, vs 19, vs 20, vs 21, undef, undef, undef, undef, undef, undef, undef, undef, undef, undef, undef, undef, undef, undef, undef, undef, undef, undef, undef, undef, undef, undef, undef, undef, undef, undef, undef, undef, undef, undef, undef, undef, undef, undef, undef, undef, undef, undef, undef, undef, undef, undef, undef, undef, undef, undef, undef, undef, undef, undef, undef, undef, undef, undef, undef, undef, undef, undef, undef, undef, undef, undef, undef, undef, undef, undef, undef, undef, undef, undef, undef, undef, undef, undef], defers := [] }) [] (lv1 [.slice (some ⟨M, 0, none⟩) n n, .int .i64 (i : Int), .pointer (some ⟨M, i, none⟩), .slice (some ⟨gs2 i, 0, none⟩) n n, .int .i64 (j : Int), .slice (some ⟨M, 0, none⟩) n n, .int .i64 (i : Int), .pointer (some ⟨M, i, none⟩), .slice (some ⟨gs2 i, 0, none⟩) n n, .int .i64 (j : Int), .pointer (some ⟨gs2 i, j, none⟩), .bool true, .bool true, undef, undef, undef, undef, undef, undef, undef, .bool true, .pointer (some ⟨gs2 i, j, none⟩)]) (fun _ _ W => Below w4.heap.size w4 W) (fun i => if i = 0 then u135 else if i = 1 then u136 else if i = 2 then u137 else if i = 3 then u138 else if i = 4 then u139 else if i = 5 then u140 else if i = 6 then u141 else if i = 7 then u142 else if i = 8 then u143 else if i = 9 then u144 else if i = 10 then u145 else if i = 11 then u146 else if i = 12 then u147 else if i = 13 then u148 else if i = 14 then u149 else if i = 15 then u150 else if i = 16 then u151 else if i = 17 then u152 else if i = 18 then u153 else if i = 19 then u154 else if i = 20 then u155 else if i = 21 then u156 else undef) rfl (by kernel_rfl) ?_ (fun _ _ _ _ _ _ h => h) (allAt_all ⟨?_, ?_, ?_, ?_, ?_, ?_, ?_, ?_, ?_, ?_, ?_, ?_, ?_, ?_, ?_, ?_, ?_, ?_, ?_, ?_, ?_, ?_, ?_, trivial⟩) ?_ ?_
           case refine_1 => exact Below.drew (Below.refl _ _)
           case refine_2 =>
            intro _ _ kk vs W hB hv
            clear hv
            go_wp2
            exact PurePost.mk' (.slice (some ⟨M, 0, none⟩) n n) (by rfl) rfl
           case refine_3 =>
            intro _ _ kk vs W hB hv
            clear hv
            go_wp2
            exact PurePost.mk' (.int .i64 (i : Int)) (by rfl) rfl
           case refine_4 =>
            intro _ _ kk vs W hB hv
            have e0 : vs 0 = .slice (some ⟨M, 0, none⟩) n n := hv ⟨0, .data⟩ (by simp) rfl (by decide)
            have e1 : vs 1 = .int .i64 (i : Int) := hv ⟨1, .data⟩ (by simp) rfl (by decide)
            clear hv
            simp only [e0, e1]
            go_wp2
            exact PurePost.mk' (.pointer (some ⟨M, i, none⟩)) (by first | (rw [← e0, ← e1]; rfl) | (simp [upd, e0, e1])) rfl
           case refine_5 =>
            intro _ _ kk vs W hB hv
            have e2 : vs 2 = .pointer (some ⟨M, i, none⟩) := hv ⟨2, .data⟩ (by simp) rfl (by decide)
            obtain ⟨m1, m2, b1c, b2c, _⟩ := hcl.out W hB
            clear hv
            simp only [e2]
            go_wp2
            exact PurePost.mk' (.slice (some ⟨gs2 i, 0, none⟩) n n) (by first | (rw [← e2]; rfl) | (simp [upd, e2])) rfl
           case refine_6 =>
            intro _ _ kk vs W hB hv
            clear hv
            go_wp2
            exact PurePost.mk' (.int .i64 (j : Int)) (by rfl) rfl
           case refine_7 =>
            intro _ _ kk vs W hB hv
            clear hv
            go_wp2
            exact PurePost.mk' (.slice (some ⟨M, 0, none⟩) n n) (by rfl) rfl
           case refine_8 =>
            intro _ _ kk vs W hB hv
            clear hv
            go_wp2
            exact PurePost.mk' (.int .i64 (i : Int)) (by rfl) rfl
           case refine_9 =>
            intro _ _ kk vs W hB hv
            have e5 : vs 5 = .slice (some ⟨M, 0, none⟩) n n := hv ⟨5, .data⟩ (by simp) rfl (by decide)
            have e6 : vs 6 = .int .i64 (i : Int) := hv ⟨6, .data⟩ (by simp) rfl (by decide)
            clear hv
            simp only [e5, e6]
            go_wp2
            exact PurePost.mk' (.pointer (some ⟨M, i, none⟩)) (by first | (rw [← e5, ← e6]; rfl) | (simp [upd, e5, e6])) rfl
           case refine_10 =>
            intro _ _ kk vs W hB hv
            have e7 : vs 7 = .pointer (some ⟨M, i, none⟩) := hv ⟨7, .data⟩ (by simp) rfl (by decide)
            obtain ⟨m1, m2, b1c, b2c, _⟩ := hcl.out W hB
            clear hv
            simp only [e7]
            go_wp2
            exact PurePost.mk' (.slice (some ⟨gs2 i, 0, none⟩) n n) (by first | (rw [← e7]; rfl) | (simp [upd, e7])) rfl
           case refine_11 =>
            intro _ _ kk vs W hB hv
            clear hv
            go_wp2
            exact PurePost.mk' (.int .i64 (j : Int)) (by rfl) rfl
           case refine_12 =>
            intro _ _ kk vs W hB hv
            have e8 : vs 8 = .slice (some ⟨gs2 i, 0, none⟩) n n := hv ⟨8, .data⟩ (by simp) rfl (by decide)
            have e9 : vs 9 = .int .i64 (j : Int) := hv ⟨9, .data⟩ (by simp) rfl (by decide)
            clear hv
            simp only [e8, e9]
            go_wp2
            exact PurePost.mk' (.pointer (some ⟨gs2 i, j, none⟩)) (by first | (rw [← e8, ← e9]; rfl) | (simp [upd, e8, e9])) rfl
           case refine_13 =>
            intro _ _ kk vs W hB hv
            have e10 : vs 10 = .pointer (some ⟨gs2 i, j, none⟩) := hv ⟨10, .data⟩ (by simp) rfl (by decide)
            obtain ⟨m1, m2, b1c, b2c, _⟩ := hcl.out W hB
            clear hv
            simp only [e10]
            go_wp2
            exact PurePost.mk' (.bool true) (by first | (rw [← e10]; rfl) | (simp [upd, e10])) rfl
           case refine_14 =>
            intro _ _ kk vs W hB hv
            have e11 : vs 11 = .bool true := hv ⟨11, .data⟩ (by simp) rfl (by decide)
            clear hv
            simp only [e11]
            go_wp2
            exact PurePost.mk' (.bool true) (by simp [upd, e11]) rfl
           case refine_15 =>
            intro _ _ kk vs W hB hv
            have e12 : vs 12 = .bool true := hv ⟨12, .guard⟩ (by simp) rfl (by decide)
            clear hv
            simp only [e12]
            go_wp2
            exact PurePost.mk' (undef) (by first | (rw [← e12]; rfl) | (simp [upd, e12])) rfl
           case refine_16 =>
            intro _ _ kk vs W hB hv
            have e12 : vs 12 = .bool true := hv ⟨12, .guard⟩ (by simp) rfl (by decide)
            clear hv
            simp only [e12]
            go_wp2
            exact PurePost.mk' (undef) (by first | (rw [← e12]; rfl) | (simp [upd, e12])) rfl
           case refine_17 =>
            intro _ _ kk vs W hB hv
            have e12 : vs 12 = .bool true := hv ⟨12, .guard⟩ (by simp) rfl (by decide)
            clear hv
            simp only [e12]
            go_wp2
            exact PurePost.mk' (undef) (by first | (rw [← e12]; rfl) | (simp [upd, e12])) rfl
           case refine_18 =>
            intro _ _ kk vs W hB hv
            have e12 : vs 12 = .bool true := hv ⟨12, .guard⟩ (by simp) rfl (by decide)
            clear hv
            simp only [e12]
            go_wp2
            exact PurePost.mk' (undef) (by first | (rw [← e12]; rfl) | (simp [upd, e12])) rfl
           case refine_19 =>
            intro _ _ kk vs W hB hv
            have e12 : vs 12 = .bool true := hv ⟨12, .guard⟩ (by simp) rfl (by decide)
            clear hv
            simp only [e12]
            go_wp2
            exact PurePost.mk' (undef) (by first | (rw [← e12]; rfl) | (simp [upd, e12])) rfl
           case refine_20 =>
            intro _ _ kk vs W hB hv
            have e12 : vs 12 = .bool true := hv ⟨12, .guard⟩ (by simp) rfl (by decide)
            clear hv
            simp only [e12]
            go_wp2
            exact PurePost.mk' (undef) (by first | (rw [← e12]; rfl) | (simp [upd, e12])) rfl
           case refine_21 =>
            intro _ _ kk vs W hB hv
            have e12 : vs 12 = .bool true := hv ⟨12, .guard⟩ (by simp) rfl (by decide)
            clear hv
            simp only [e12]
            go_wp2
            exact PurePost.mk' (undef) (by first | (rw [← e12]; rfl) | (simp [upd, e12])) rfl
           case refine_22 =>
            intro _ _ kk vs W hB hv
            have e12 : vs 12 = .bool true := hv ⟨12, .data⟩ (by simp) rfl (by decide)
            clear hv
            simp only [e12]
            go_wp2
            exact PurePost.mk' (.bool true) (by simp [upd, e12]) rfl
           case refine_23 =>
            intro _ _ kk vs W hB hv
            have e3 : vs 3 = .slice (some ⟨gs2 i, 0, none⟩) n n := hv ⟨3, .data⟩ (by simp) rfl (by decide)
            have e4 : vs 4 = .int .i64 (j : Int) := hv ⟨4, .data⟩ (by simp) rfl (by decide)
            clear hv
            simp only [e3, e4]
            go_wp2
            exact PurePost.mk' (.pointer (some ⟨gs2 i, j, none⟩)) (by first | (rw [← e3, ← e4]; rfl) | (simp [upd, e3, e4])) rfl
           case refine_24 => exact fun _ h => absurd h (by simp)
           case refine_25 =>
            intro kk qq o hq
            simp at hq
           case refine_26 =>
            intro o ho vs W hB hv
            obtain rfl := Option.some.inj ho
            have e0 : vs 0 = .slice (some ⟨M, 0, none⟩) n n := hv 0 (by simp) (by simp)
            have e1 : vs 1 = .int .i64 (i : Int) := hv 1 (by simp) (by simp)
            have e2 : vs 2 = .pointer (some ⟨M, i, none⟩) := hv 2 (by simp) (by simp)
            have e3 : vs 3 = .slice (some ⟨gs2 i, 0, none⟩) n n := hv 3 (by simp) (by simp)
            have e4 : vs 4 = .int .i64 (j : Int) := hv 4 (by simp) (by simp)
            have e5 : vs 5 = .slice (some ⟨M, 0, none⟩) n n := hv 5 (by simp) (by simp)
            have e6 : vs 6 = .int .i64 (i : Int) := hv 6 (by simp) (by simp)
            have e7 : vs 7 = .pointer (some ⟨M, i, none⟩) := hv 7 (by simp) (by simp)
            have e8 : vs 8 = .slice (some ⟨gs2 i, 0, none⟩) n n := hv 8 (by simp) (by simp)
            have e9 : vs 9 = .int .i64 (j : Int) := hv 9 (by simp) (by simp)
            have e10 : vs 10 = .pointer (some ⟨gs2 i, j, none⟩) := hv 10 (by simp) (by simp)
            have e11 : vs 11 = .bool true := hv 11 (by simp) (by simp)
            have e12 : vs 12 = .bool true := hv 12 (by simp) (by simp)
            have e13 : vs 13 = undef := hv 13 (by simp) (by simp)
            have e14 : vs 14 = undef := hv 14 (by simp) (by simp)
            have e15 : vs 15 = undef := hv 15 (by simp) (by simp)
            have e16 : vs 16 = undef := hv 16 (by simp) (by simp)
            have e17 : vs 17 = undef := hv 17 (by simp) (by simp)
            have e18 : vs 18 = undef := hv 18 (by simp) (by simp)
            have e19 : vs 19 = undef := hv 19 (by simp) (by simp)
            have e20 : vs 20 = .bool true := hv 20 (by simp) (by simp)
            have e21 : vs 21 = .pointer (some ⟨gs2 i, j, none⟩) := hv 21 (by simp) (by simp)
            obtain ⟨m1, m2, b1c, b2c, f1c⟩ := hcl.out W hB
            have hM9 : Hid (MatW wr (W.setCell ⟨gs2 i, j, none⟩ (.bool true)) M n i gs2 (updB bs i j (true))) := hMs.out W hB _
            clear hv hMs hcl
            simp only [e0, e1, e2, e3, e4, e5, e6, e7, e8, e9, e10, e11, e12, e13, e14, e15, e16, e17, e18, e19, e20, e21]
            clear e0 e1 e2 e3 e4 e5 e6 e7 e8 e9 e10 e11 e12 e13 e14 e15 e16 e17 e18 e19 e20 e21
            go_wp2
            go_roundw
            case rel => exact ⟨j + 1, _, Nat.lt_succ_of_lt hkj, hlj, by go_num, hM9, hR2⟩
            case measure => simp [intOf]; omega
          | false =>
           rw [hb1] at hcl0 hR2
           rw [show (false || b2) = b2 from rfl] at hR2
           have hcl := hcl0
           clear hb1 hcl0
           go_upto_region 25 with fail
           refine wp_region_chain (by kernel_rfl) (fun vs => { tmps := #[Value.agg #[Value.int IntKind.i64 x.vars, Value.int IntKind.i64 x.vol, Value.int IntKind.i64 x.locks, Value.slice ta x.thr.length tc], Value.slice za zs.length zc, Value.pointer (some { block := w.heap.size, off := 0 }), undef, Value.pointer (some { block := w.heap.size + 1, off := 0 }), Value.pointer (some { block := w.heap.size + 1 + 1, off := 0 }), u6, Value.int IntKind.i64 ↑m, Value.int IntKind.i64 ↑n, Value.slice (some { block := M, off := 0 }) n n, Value.int IntKind.i64 ↑i, Value.int IntKind.i64 ↑k, Value.int IntKind.i64 ↑j, undef, undef, undef, undef, Value.agg #[Value.slice none 0 0, Value.slice none 0 0], Value.agg #[Value.int IntKind.i64 x.vars, Value.int IntKind.i64 x.vol, Value.int IntKind.i64 x.locks, Value.slice ta x.thr.length tc], Value.bool true, Value.bool false, undef, Value.agg #[Value.int IntKind.i64 x.vars, Value.int IntKind.i64 x.vol, Value.int IntKind.i64 x.locks, Value.slice ta x.thr.length tc], p, u24, u25, u26, u27, u28, u29, u30, Value.bool false, u32, u33, u34, u35, u36, u37, u38, u39, u40, u41, u42, u43, u44, u45, u46, u47, u48, u49, u50, u51, u52, u53, u54, u55, u56, u57, u58, u59, u60, u61, u62, u63, u64, u65, u66, u67, u68, u69, u70, u71, u72, u73, u74, u75, u76, u77, u78, u79, u80, u81, u82, u83, u84, u85, Value.pointer (some { block := w.heap.size + 1 + 1, off := 0 }), Value.slice (some { block := db, off := 0 }) n dc, Value.int IntKind.i64 ↑n, Value.int IntKind.i64 ↑n, Value.slice (some { block := M, off := 0 }) n n, Value.int IntKind.i64 ↑n, Value.int IntKind.i64 (↑n - 1), Value.int IntKind.i64 ↑i, Value.bool true, u95, u96, Value.slice (some { block := M, off := 0 }) n n, Value.int IntKind.i64 ↑i, Value.int IntKind.i64 ↑n, Value.slice (some { block := w2.heap.size, off := 0 }) n n, Value.pointer (some { block := M, off := i }), Value.int IntKind.i64 ↑i, Value.int IntKind.i64 (↑i + 1), Value.int IntKind.i64 ↑k, Value.int IntKind.i64 ↑n, Value.bool true, u107, u108, Value.agg #[Value.int IntKind.i64 x.vars, Value.int IntKind.i64 x.vol, Value.int IntKind.i64 x.locks, Value.slice ta x.thr.length tc], Value.pointer (some { block := w.heap.size + 1 + 1, off := 0 }), Value.slice (some { block := db, off := 0 }) n dc, Value.int IntKind.i64 ↑i, Value.pointer (some { block := db, off := i * 2 }), Value.agg #[Value.int IntKind.i64 ↑ds[i].t, Value.int IntKind.i64 ↑ds[i].k], Value.pointer (some { block := w.heap.size + 1 + 1, off := 0 }), Value.slice (some { block := db, off := 0 }) n dc, Value.int IntKind.i64 ↑k, Value.pointer (some { block := db, off := k * 2 }), Value.agg #[Value.int IntKind.i64 ↑ds[k].t, Value.int IntKind.i64 ↑ds[k].k], Value.bool true, Value.bool false, Value.slice (some { block := M, off := 0 }) n n, Value.int IntKind.i64 ↑i, Value.pointer (some { block := M, off := i }), Value.slice (some { block := gs2 i, off := 0 }) n n, Value.int IntKind.i64 ↑k, Value.pointer (some { block := gs2 i, off := k }), Value.int IntKind.i64 ↑k, Value.int IntKind.i64 (↑k + 1), Value.int IntKind.i64 ↑j, Value.int IntKind.i64 ↑n, Value.bool true, u133, u134, vs 0, vs 1, vs 2, vs 3, vs 4, vs 5, vs 6, vs 7, vs 8, vs 9, vs 10, vs 11, vs 12, vs 13, vs 14, vs 15, vs 16, vs 17, vs 18, vs 19, vs 20, vs 21, undef, undef, undef, undef, undef, undef, undef, undef, undef, undef, undef, undef, undef, undef, undef, undef, undef, undef, undef, undef, undef, undef, undef, undef, undef, undef, undef, undef, undef, undef, undef, undef, undef, undef, undef, undef, undef, undef, undef, undef, undef, undef, undef, undef, undef, undef, undef, undef, undef, undef, undef, undef, undef, undef, undef, undef, undef, undef, undef, undef, undef, undef, undef, undef, undef, undef, undef, undef, undef, undef, undef, undef, undef, undef], defers := [] }) [] (lv1 [.slice (some ⟨M, 0, none⟩) n n, .int .i64 (i : Int), .pointer (some ⟨M, i, none⟩), .slice (some ⟨gs2 i, 0, none⟩) n n, .int .i64 (j : Int), .slice (some ⟨M, 0, none⟩) n n, .int .i64 (i : Int), .pointer (some ⟨M, i, none⟩), .slice (some ⟨gs2 i, 0, none⟩) n n, .int .i64 (j : Int), .pointer (some ⟨gs2 i, j, none⟩), .bool false, .bool false, .slice (some ⟨M, 0, none⟩) n n, .int .i64 (k : Int), .pointer (some ⟨M, k, none⟩), .slice (some ⟨gs2 k, 0, none⟩) n n, .int .i64 (j : Int), .pointer (some ⟨gs2 k, j, none⟩), .bool b2, .bool b2, .pointer (some ⟨gs2 i, j, none⟩)]) (fun _ _ W => Below w4.heap.size w4 W) (fun i => if i = 0 then u135 else if i = 1 then u136 else if i = 2 then u137 else if i = 3 then u138 else if i = 4 then u139 else if i = 5 then u140 else if i = 6 then u141 else if i = 7 then u142 else if i = 8 then u143 else if i = 9 then u144 else if i = 10 then u145 else if i = 11 then u146 else if i = 12 then u147 else if i = 13 then u148 else if i = 14 then u149 else if i = 15 then u150 else if i = 16 then u151 else if i = 17 then u152 else if i = 18 then u153 else if i = 19 then u154 else if i = 20 then u155 else if i = 21 then u156 else undef) rfl (by kernel_rfl) ?_ (fun _ _ _ _ _ _ h => h) (allAt_all ⟨?_, ?_, ?_, ?_, ?_, ?_, ?_, ?_, ?_, ?_, ?_, ?_, ?_, ?_, ?_, ?_, ?_, ?_, ?_, ?_, ?_, ?_, ?_, trivial⟩) ?_ ?_
           case refine_1 => exact Below.drew (Below.refl _ _)
           case refine_2 =>
            intro _ _ kk vs W hB hv
            clear hv
            go_wp2
            exact PurePost.mk' (.slice (some ⟨M, 0, none⟩) n n) (by rfl) rfl
           case refine_3 =>
            intro _ _ kk vs W hB hv
            clear hv
            go_wp2
            exact PurePost.mk' (.int .i64 (i : Int)) (by rfl) rfl
           case refine_4 =>
            intro _ _ kk vs W hB hv
            have e0 : vs 0 = .slice (some ⟨M, 0, none⟩) n n := hv ⟨0, .data⟩ (by simp) rfl (by decide)
            have e1 : vs 1 = .int .i64 (i : Int) := hv ⟨1, .data⟩ (by simp) rfl (by decide)
            clear hv
            simp only [e0, e1]
            go_wp2
            exact PurePost.mk' (.pointer (some ⟨M, i, none⟩)) (by first | (rw [← e0, ← e1]; rfl) | (simp [upd, e0, e1])) rfl
           case refine_5 =>
            intro _ _ kk vs W hB hv
            have e2 : vs 2 = .pointer (some ⟨M, i, none⟩) := hv ⟨2, .data⟩ (by simp) rfl (by decide)
            obtain ⟨m1, m2, b1c, b2c, _⟩ := hcl.out W hB
            clear hv
            simp only [e2]
            go_wp2
            exact PurePost.mk' (.slice (some ⟨gs2 i, 0, none⟩) n n) (by first | (rw [← e2]; rfl) | (simp [upd, e2])) rfl
           case refine_6 =>
            intro _ _ kk vs W hB hv
            clear hv
            go_wp2
            exact PurePost.mk' (.int .i64 (j : Int)) (by rfl) rfl
           case refine_7 =>
            intro _ _ kk vs W hB hv
            clear hv
            go_wp2
            exact PurePost.mk' (.slice (some ⟨M, 0, none⟩) n n) (by rfl) rfl
           case refine_8 =>
            intro _ _ kk vs W hB hv
            clear hv
            go_wp2
            exact PurePost.mk' (.int .i64 (i : Int)) (by rfl) rfl
           case refine_9 =>
            intro _ _ kk vs W hB hv
            have e5 : vs 5 = .slice (some ⟨M, 0, none⟩) n n := hv ⟨5, .data⟩ (by simp) rfl (by decide)
            have e6 : vs 6 = .int .i64 (i : Int) := hv ⟨6, .data⟩ (by simp) rfl (by decide)
            clear hv
            simp only [e5, e6]
            go_wp2
            exact PurePost.mk' (.pointer (some ⟨M, i, none⟩)) (by first | (rw [← e5, ← e6]; rfl) | (simp [upd, e5, e6])) rfl
           case refine_10 =>
            intro _ _ kk vs W hB hv
            have e7 : vs 7 = .pointer (some ⟨M, i, none⟩) := hv ⟨7, .data⟩ (by simp) rfl (by decide)
            obtain ⟨m1, m2, b1c, b2c, _⟩ := hcl.out W hB
            clear hv
            simp only [e7]
            go_wp2
            exact PurePost.mk' (.slice (some ⟨gs2 i, 0, none⟩) n n) (by first | (rw [← e7]; rfl) | (simp [upd, e7])) rfl
           case refine_11 =>
            intro _ _ kk vs W hB hv
            clear hv
            go_wp2
            exact PurePost.mk' (.int .i64 (j : Int)) (by rfl) rfl
           case refine_12 =>
            intro _ _ kk vs W hB hv
            have e8 : vs 8 = .slice (some ⟨gs2 i, 0, none⟩) n n := hv ⟨8, .data⟩ (by simp) rfl (by decide)
            have e9 : vs 9 = .int .i64 (j : Int) := hv ⟨9, .data⟩ (by simp) rfl (by decide)
            clear hv
            simp only [e8, e9]
            go_wp2
            exact PurePost.mk' (.pointer (some ⟨gs2 i, j, none⟩)) (by first | (rw [← e8, ← e9]; rfl) | (simp [upd, e8, e9])) rfl
           case refine_13 =>
            intro _ _ kk vs W hB hv
            have e10 : vs 10 = .pointer (some ⟨gs2 i, j, none⟩) := hv ⟨10, .data⟩ (by simp) rfl (by decide)
            obtain ⟨m1, m2, b1c, b2c, _⟩ := hcl.out W hB
            clear hv
            simp only [e10]
            go_wp2
            exact PurePost.mk' (.bool false) (by first | (rw [← e10]; rfl) | (simp [upd, e10])) rfl
           case refine_14 =>
            intro _ _ kk vs W hB hv
            have e11 : vs 11 = .bool false := hv ⟨11, .data⟩ (by simp) rfl (by decide)
            clear hv
            simp only [e11]
            go_wp2
            exact PurePost.mk' (.bool false) (by simp [upd, e11]) rfl
           case refine_15 =>
            intro _ _ kk vs W hB hv
            have e12 : vs 12 = .bool false := hv ⟨12, .guard⟩ (by simp) rfl (by decide)
            clear hv
            simp only [e12]
            go_wp2
            exact PurePost.mk' (.slice (some ⟨M, 0, none⟩) n n) (by first | (rw [← e12]; rfl) | (simp [upd, e12])) rfl
           case refine_16 =>
            intro _ _ kk vs W hB hv
            have e12 : vs 12 = .bool false := hv ⟨12, .guard⟩ (by simp) rfl (by decide)
            clear hv
            simp only [e12]
            go_wp2
            exact PurePost.mk' (.int .i64 (k : Int)) (by first | (rw [← e12]; rfl) | (simp [upd, e12])) rfl
           case refine_17 =>
            intro _ _ kk vs W hB hv
            have e13 : vs 13 = .slice (some ⟨M, 0, none⟩) n n := hv ⟨13, .data⟩ (by simp) rfl (by decide)
            have e14 : vs 14 = .int .i64 (k : Int) := hv ⟨14, .data⟩ (by simp) rfl (by decide)
            have e12 : vs 12 = .bool false := hv ⟨12, .guard⟩ (by simp) rfl (by decide)
            clear hv
            simp only [e13, e14, e12]
            go_wp2
            exact PurePost.mk' (.pointer (some ⟨M, k, none⟩)) (by first | (rw [← e13, ← e14, ← e12]; rfl) | (simp [upd, e13, e14, e12])) rfl
           case refine_18 =>
            intro _ _ kk vs W hB hv
            have e15 : vs 15 = .pointer (some ⟨M, k, none⟩) := hv ⟨15, .data⟩ (by simp) rfl (by decide)
            have e12 : vs 12 = .bool false := hv ⟨12, .guard⟩ (by simp) rfl (by decide)
            obtain ⟨m1, m2, b1c, b2c, _⟩ := hcl.out W hB
            clear hv
            simp only [e15, e12]
            go_wp2
            exact PurePost.mk' (.slice (some ⟨gs2 k, 0, none⟩) n n) (by first | (rw [← e15, ← e12]; rfl) | (simp [upd, e15, e12])) rfl
           case refine_19 =>
            intro _ _ kk vs W hB hv
            have e12 : vs 12 = .bool false := hv ⟨12, .guard⟩ (by simp) rfl (by decide)
            clear hv
            simp only [e12]
            go_wp2
            exact PurePost.mk' (.int .i64 (j : Int)) (by first | (rw [← e12]; rfl) | (simp [upd, e12])) rfl
           case refine_20 =>
            intro _ _ kk vs W hB hv
            have e16 : vs 16 = .slice (some ⟨gs2 k, 0, none⟩) n n := hv ⟨16, .data⟩ (by simp) rfl (by decide)
            have e17 : vs 17 = .int .i64 (j : Int) := hv ⟨17, .data⟩ (by simp) rfl (by decide)
            have e12 : vs 12 = .bool false := hv ⟨12, .guard⟩ (by simp) rfl (by decide)
            clear hv
            simp only [e16, e17, e12]
            go_wp2
            exact PurePost.mk' (.pointer (some ⟨gs2 k, j, none⟩)) (by first | (rw [← e16, ← e17, ← e12]; rfl) | (simp [upd, e16, e17, e12])) rfl
           case refine_21 =>
            intro _ _ kk vs W hB hv
            have e18 : vs 18 = .pointer (some ⟨gs2 k, j, none⟩) := hv ⟨18, .data⟩ (by simp) rfl (by decide)
            have e12 : vs 12 = .bool false := hv ⟨12, .guard⟩ (by simp) rfl (by decide)
            obtain ⟨m1, m2, b1c, b2c, _⟩ := hcl.out W hB
            clear hv
            simp only [e18, e12]
            go_wp2
            exact PurePost.mk' (.bool b2) (by first | (rw [← e18, ← e12]; rfl) | (simp [upd, e18, e12])) rfl
           case refine_22 =>
            intro _ _ kk vs W hB hv
            have e12 : vs 12 = .bool false := hv ⟨12, .data⟩ (by simp) rfl (by decide)
            have e19 : vs 19 = .bool b2 := hv ⟨19, .data⟩ (by simp) rfl (by decide)
            clear hv
            simp only [e12, e19]
            go_wp2
            exact PurePost.mk' (.bool b2) (by simp [upd, e12, e19]) rfl
           case refine_23 =>
            intro _ _ kk vs W hB hv
            have e3 : vs 3 = .slice (some ⟨gs2 i, 0, none⟩) n n := hv ⟨3, .data⟩ (by simp) rfl (by decide)
            have e4 : vs 4 = .int .i64 (j : Int) := hv ⟨4, .data⟩ (by simp) rfl (by decide)
            clear hv
            simp only [e3, e4]
            go_wp2
            exact PurePost.mk' (.pointer (some ⟨gs2 i, j, none⟩)) (by first | (rw [← e3, ← e4]; rfl) | (simp [upd, e3, e4])) rfl
           case refine_24 => exact fun _ h => absurd h (by simp)
           case refine_25 =>
            intro kk qq o hq
            simp at hq
           case refine_26 =>
            intro o ho vs W hB hv
            obtain rfl := Option.some.inj ho
            have e0 : vs 0 = .slice (some ⟨M, 0, none⟩) n n := hv 0 (by simp) (by simp)
            have e1 : vs 1 = .int .i64 (i : Int) := hv 1 (by simp) (by simp)
            have e2 : vs 2 = .pointer (some ⟨M, i, none⟩) := hv 2 (by simp) (by simp)
            have e3 : vs 3 = .slice (some ⟨gs2 i, 0, none⟩) n n := hv 3 (by simp) (by simp)
            have e4 : vs 4 = .int .i64 (j : Int) := hv 4 (by simp) (by simp)
            have e5 : vs 5 = .slice (some ⟨M, 0, none⟩) n n := hv 5 (by simp) (by simp)
            have e6 : vs 6 = .int .i64 (i : Int) := hv 6 (by simp) (by simp)
            have e7 : vs 7 = .pointer (some ⟨M, i, none⟩) := hv 7 (by simp) (by simp)
            have e8 : vs 8 = .slice (some ⟨gs2 i, 0, none⟩) n n := hv 8 (by simp) (by simp)
            have e9 : vs 9 = .int .i64 (j : Int) := hv 9 (by simp) (by simp)
            have e10 : vs 10 = .pointer (some ⟨gs2 i, j, none⟩) := hv 10 (by simp) (by simp)
            have e11 : vs 11 = .bool false := hv 11 (by simp) (by simp)
            have e12 : vs 12 = .bool false := hv 12 (by simp) (by simp)
            have e13 : vs 13 = .slice (some ⟨M, 0, none⟩) n n := hv 13 (by simp) (by simp)
            have e14 : vs 14 = .int .i64 (k : Int) := hv 14 (by simp) (by simp)
            have e15 : vs 15 = .pointer (some ⟨M, k, none⟩) := hv 15 (by simp) (by simp)
            have e16 : vs 16 = .slice (some ⟨gs2 k, 0, none⟩) n n := hv 16 (by simp) (by simp)
            have e17 : vs 17 = .int .i64 (j : Int) := hv 17 (by simp) (by simp)
            have e18 : vs 18 = .pointer (some ⟨gs2 k, j, none⟩) := hv 18 (by simp) (by simp)
            have e19 : vs 19 = .bool b2 := hv 19 (by simp) (by simp)
            have e20 : vs 20 = .bool b2 := hv 20 (by simp) (by simp)
            have e21 : vs 21 = .pointer (some ⟨gs2 i, j, none⟩) := hv 21 (by simp) (by simp)
            obtain ⟨m1, m2, b1c, b2c, f1c⟩ := hcl.out W hB
            have hM9 : Hid (MatW wr (W.setCell ⟨gs2 i, j, none⟩ (.bool b2)) M n i gs2 (updB bs i j (b2))) := hMs.out W hB _
            clear hv hMs hcl
            simp only [e0, e1, e2, e3, e4, e5, e6, e7, e8, e9, e10, e11, e12, e13, e14, e15, e16, e17, e18, e19, e20, e21]
            clear e0 e1 e2 e3 e4 e5 e6 e7 e8 e9 e10 e11 e12 e13 e14 e15 e16 e17 e18 e19 e20 e21
            go_wp2
            go_roundw
            case rel => exact ⟨j + 1, _, Nat.lt_succ_of_lt hkj, hlj, by go_num, hM9, hR2⟩
            case measure => simp [intOf]; omega
         ·have hje : j = n := Nat.le_antisymm hjn (Nat.le_of_not_lt hlj)
          subst hje
          have hR2 : Hid (RowOk E j i (rowB E i (k + 1)) bs) := hR.out.last hik hEt.out
          go_wp2
          go_roundw
          case rel => exact ⟨k + 1, bs, Nat.lt_succ_of_lt hik, hlt, by go_num, hM, hR2⟩
          case measure => simp [intOf]; omega
      ·have hke : k = n := Nat.le_antisymm hkn (Nat.le_of_not_lt hlt)
       subst hke
       have hA2 : Hid (AllOk E k i bs) := hR.out.all
       go_wp2
       go_roundw
       case rel => exact ⟨i, gs2, bs, Nat.le_of_lt hil, rfl, hM, hA2⟩
       case measure => simp [intOf]
end Go.Proofs.YtknbchheoloaoaaGreat
