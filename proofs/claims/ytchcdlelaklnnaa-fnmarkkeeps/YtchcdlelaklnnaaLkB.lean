/- The law: what is reached is there; a cycle at rest leaves nothing else. -/
import Derived.Test.YtchcdlelaklnnaaLkA
namespace Go.Proofs.Ytchcdlelaklnnaa
set_option linter.unusedVariables false
open Go.ChangeShapes Go.WideShapes Go.ChangeAt Go.RowKit

set_option maxRecDepth 100000 in
theorem big_calls (C : Option Addr) (len cap : Nat) (w : World) : Calls Try.prog 4 #[.slice C len cap] w fun e w' => e = .returned (.bool (decide ((1048576 : Int) < len))) ∧ w' = w := by
  by_cases h : (1048576 : Int) < len
  · go_enter Try.func4, Try.ntmps4
    go_wp2
    go_ret
    exact ⟨by simp [h], rfl⟩
  · go_enter Try.func4, Try.ntmps4
    go_wp2
    go_ret
    exact ⟨by simp [h], rfl⟩
set_option maxRecDepth 1000000 in
set_option maxHeartbeats 1000000 in
theorem hasNum_yes (a : Option Addr) (c : Nat) (zs : List Int) (n : Int) (w : World) (h : ∀ j (hj : j < zs.length), ∃ b, a = some ⟨b, 0, none⟩ ∧ w.cell? ⟨b, j, none⟩ = some (.int .i64 zs[j])) (hn : n ∈ zs) (hl : zs.length ≤ 1048576) : Calls Try.prog 11 #[.slice a zs.length c, .int .i64 n] w fun e w' => e = .returned (.bool true) ∧ w' = w := by
  have hH : Hid (∀ j (hj : j < zs.length), ∃ b, a = some ⟨b, 0, none⟩ ∧ w.cell? ⟨b, j, none⟩ = some (.int .i64 zs[j])) := h
  have hl' : (zs.length : Int) ≤ 1048576 := by omega
  have hn0 : Hid (n ∈ zs.drop 0) := hn
  clear h hn
  go_enter Try.func11, Try.ntmps11
  go_wp2
  go_loopw [5] (fun i wr => ∃ m : Nat, m ≤ zs.length ∧ i = .int .i64 m ∧ wr = w ∧ Hid (n ∈ zs.drop m)) (fun i _ => zs.length - (intOf i).toNat)
  case atStart => exact ⟨0, Nat.zero_le _, rfl, rfl, hn0⟩
  case round =>
    clear hn0
    obtain ⟨m, hm, rfl, hw, hin⟩ := hrel
    have hw2 := hw.symm
    subst hw2
    clear hw
    have hm0 : (0 : Int) ≤ m := by omega
    have hlt : m < zs.length := by
      rcases Nat.lt_or_ge m zs.length with q | q
      · exact q
      · have := hin.out
        rw [List.drop_eq_nil_of_le q] at this
        simp at this
    have hlt' : (m : Int) < (zs.length : Int) := by omega
    obtain ⟨b, rfl, c0⟩ := hH.out m hlt
    by_cases he : zs[m] = n
    · generalize zs[m] = z at *
      go_wp2
      go_ret
      exact ⟨rfl, by first | trivial | rfl⟩
    · have hin2 : Hid (n ∈ zs.drop (m + 1)) := by
        have := hin.out
        rw [List.drop_eq_getElem_cons hlt] at this
        rcases List.mem_cons.1 this with q | q
        · exact absurd q.symm he
        · exact q
      clear hin
      generalize zs[m] = z at *
      go_wp2
      go_roundw
      case rel => exact ⟨m + 1, by omega, by go_num, by first | trivial | rfl, hin2⟩
      case measure => simp [intOf]; omega
set_option maxRecDepth 100000 in
theorem drawAt_calls (C : Option Addr) (len cap : Nat) (w : World) (hc : Code C len w) :
    Calls Try.prog 6 #[.slice C len cap] w fun e w' => ∃ (mode : Int) (ops : List OpM) (a : Option Addr) (c : Nat), e = .returned (.tuple #[.int .i64 mode, .slice a ops.length c]) ∧ ListAt MopR 4 false w.heap.size w'.heap.size w' (.slice a ops.length c) ops ∧ ops.length ≤ 125 ∧ Below w.heap.size w w' ∧ w'.ownsRow w.heap.size 27 4 (.slice a ops.length c) ops.length (opsC ops) := by
  have hd := drawRun_calls C len cap w hc
  clear hc
  go_enter Try.func6, Try.ntmps6
  go_wp2_with (go_at_call 16; refine hd.mono ?_; rintro e w2 ⟨mode, u, ops, rfl, hr, hl, hb, a, c, rfl, _, hown⟩; have hrH : Hid (ListAt MopR 4 false w.heap.size w2.heap.size w2 (.slice a ops.length c) ops) := hr; have hlH : Hid _ := hl; have hbH : Hid _ := hb; have hoH : Hid _ := hown; clear hr hl hb hown)
  go_ret2
  exact ⟨_, ops, a, c, rfl, hrH.out, hlH.out, hbH.out, hoH.out⟩
theorem lt_of_cell {w : World} {b o : Nat} {v : Value} (h : w.cell? ⟨b, o, none⟩ = some v) : b < w.heap.size := block_lt_of_cell h
theorem grown_below {B : Nat} {w wr w' : World} {row : Option Nat} (hb : Below B w wr) (hB : B ≤ wr.heap.size) (o : Obj) (hlt : ∀ k, row = some k → B ≤ k) (hg : (wr.alloc o).grownBy w' row) : Below B w w' := by
  refine hb.trans ⟨hg.os, hg.tape, hg.output, ?_, fun k hk => ?_⟩
  · have := hg.size
    rw [World.size_alloc] at this
    omega
  · exact (hg.block k (by rw [World.size_alloc]; omega) fun q => absurd (hlt k q.symm) (by omega)).trans (Below.heap_alloc _ _ _ (by omega))
theorem opsC_one (ops : List OpM) : ∀ u ∈ opsC ops, u.oneCell' = true := fun u hu => by
  unfold opsC at hu
  obtain ⟨o, _, h⟩ := List.mem_flatMap.1 hu
  simp at h
  rcases h with rfl | rfl | rfl | rfl <;> rfl
theorem ops_src {w : World} {B n : Nat} {v : Value} {ops : List OpM} (h : w.ownsRow B 27 4 v n (opsC ops)) (hn : n = ops.length) : SrcAt w 4 v n (opsC ops) := by
  subst hn
  by_cases h0 : ops.length = 0
  · have : ops = [] := List.eq_nil_of_length_eq_zero h0
    subst this
    obtain ⟨a, c, e⟩ := own_slice h
    cases a with
    | none =>
      rcases h.2 with ⟨e1, _⟩ | ⟨g, cap, cur, e1, _⟩
      · exact .inl ⟨e1, rfl, rfl⟩
      · rw [e] at e1; simp at e1
    | some ad => exact .inr ⟨ad, c, e, rfl, fun j u hj => by simp [opsC] at hj⟩
  · obtain ⟨g, c, e⟩ := own_some h (by omega)
    rw [e] at h
    refine .inr ⟨⟨g, 0, none⟩, c, e, opsC_length _, fun j u hj => ?_⟩
    rw [Addr.add_lit, Nat.zero_add]
    have hil : j < (opsC ops).length := (List.getElem?_eq_some_iff.1 hj).1
    rw [World.ownsRow.cellAt h j (by rw [opsC_length] at hil; exact hil)]
    exact hj
/-- Each operation has its value; the call's is a slice. -/
def lvc (k : Nat) (n : Nat) (L : List Value) : Nat → Value → Nat → Nat → World → Prop := fun i v _ _ _ => if i = k then ∃ a c, v = .slice a n c else v = L.getD i undef
theorem rowSrc {B n k : Nat} {w0 wA : World} {v : Value} {cs : List Value} (l : List Value) (hb : Below B w0 wA) (ho : wA.ownsRow B 27 4 v n cs) (hB : B ≤ wA.heap.size) (hl : l.length = k * 4) :
    (wA.alloc (.cells l.toArray 27)).ownsRow B 27 4 v n cs ∧ SrcAt (wA.alloc (.cells l.toArray 27)) 4 (.slice (some ⟨wA.heap.size, 0, none⟩) k k) k l ∧ B ≤ (wA.alloc (.cells l.toArray 27)).heap.size ∧ ∀ w', (wA.alloc (.cells l.toArray 27)).grownBy w' v.ownBlock → Below B w0 w' := by
  refine ⟨own_kept ho fun k hk => Below.heap_alloc _ _ _ (World.ownsRow.lt ho k hk).2, .inr ⟨⟨wA.heap.size, 0, none⟩, k, rfl, hl, fun j u hj => ?_⟩, by rw [World.size_alloc]; omega, fun w' hg => grown_below hb hB _ (fun k hk => (World.ownsRow.lt ho k hk).1) hg⟩
  rw [Addr.add_lit]
  exact (rangeAt_heap (heap_alloc_new wA (.cells l.toArray 27))) j u hj
theorem reached_len {x : HpM} (hx : ∀ Z, (AscI Z ∧ ∀ z, z ∈ Z ↔ LvP x.os x.rs z) → Z.length = x.os.length) (hsm : x.small) (hy : ¬ (x.rs.length > 8 ∨ x.os.length > 400)) {w : World} {a0 a1 a3 : Option Addr} {c0 c1 c3 : Nat} (hob : ∀ k (hk : k < x.os.length), ∃ b fb fc, a0 = some ⟨b, 0, none⟩ ∧ b < w.heap.size ∧ fb < w.heap.size ∧ PobAt w b k x.os[k] fb fc) (hro : ∀ W, Below w.heap.size w W → SrcAt W 1 (.slice a1 x.rs.length c1) x.rs.length (intsV x.rs)) (V : World) (hV : Below w.heap.size w V) :
    Calls Try.prog 10 #[.agg #[.slice a0 x.os.length c0, .slice a1 x.rs.length c1, .bool x.cyc, .slice a3 x.qs.length c3]] V fun e w' => (∃ a c, e = .returned (.slice a x.os.length c)) ∧ Below V.heap.size V w' := by
  refine (specMark_yes x V a0 c0 c1 c3 a1 a3 (fun k hk => ?_) (fun W hW => hro W (below_on2 hV hW)) hsm.2.2.2 hy).mono ?_
  · obtain ⟨b, fb, fc, e, h1, h2, h3⟩ := hob k hk
    refine ⟨b, some ⟨fb, 0, none⟩, fc, e, h3.cap, fun W hW => ?_⟩
    have h4 := h3.below (below_on2 hV hW) h1 h2
    refine ⟨h4.r, .inr ⟨⟨fb, 0, none⟩, fc, rfl, by simp [intsV], fun j u hj => ?_⟩⟩
    rw [Addr.add_lit, Nat.zero_add]
    have hl : j < x.os[k].flds.length := by have := (List.getElem?_eq_some_iff.1 hj).1; simpa [intsV] using this
    rw [h4.fl j hl]
    simpa [intsV, hl] using hj
  · rintro e w' ⟨v, Z, rfl, hZ, hZ2, hb⟩
    obtain ⟨a, c, rfl⟩ := hZ.form
    rw [hx Z hZ2]
    exact ⟨⟨a, c, rfl⟩, hb⟩
theorem opsC_append (a b : List OpM) : opsC (a ++ b) = opsC a ++ opsC b := by simp [opsC]
set_option maxRecDepth 1000000 in
set_option maxHeartbeats 4000000 in
theorem lawMarkKeeps_calls (C : Option Addr) (len cap : Nat) (w : World) (hc : Code C len w) :
    Calls Try.prog 3 #[.slice C len cap] w fun e w' => e = .returned (.bool true) ∧ Below w.heap.size w w' := by
  have hbg : Hid (∀ W, Calls Try.prog 4 #[.slice C len cap] W fun e w' => e = .returned (.bool (decide ((1048576 : Int) < len))) ∧ w' = W) := fun W => big_calls C len cap W
  by_cases hbig : (1048576 : Int) < len
  · rw [decide_eq_true hbig] at hbg
    go_enter Try.func3, Try.ntmps3
    go_wp2_with (go_at_call 4; refine (show Calls _ _ _ _ _ from hbg.out _).mono ?_; rintro e w1 ⟨rfl, hw⟩; subst hw)
    go_ret
    exact ⟨rfl, Below.refl _ _⟩
  rw [decide_eq_false hbig] at hbg
  have im1 : Hid (∀ (W : World), W.rangeAt w.heap.size 0 [.int .i64 1, .int .i64 0, .int .i64 0, .int .i64 0] → w.heap.size < W.heap.size → Calls Try.prog 5 #[.int .i64 1, .slice (some ⟨w.heap.size, 0, none⟩) 1 1] W fun e w' => (∃ a c, e = .returned (.slice a 1 c)) ∧ Below W.heap.size W w') := fun W h1 h2 => by
    refine (implRun_calls W 1 [⟨1, 0, 0, 0⟩] _ false w.heap.size W.heap.size (.inr ⟨w.heap.size, 0, 1, rfl, Nat.le_refl _, h2, (fun q => by simp at q), fun j hj => ?_⟩) (Nat.le_refl _)).mono ?_
    · have hj0 : j = 0 := by simp at hj; omega
      subst hj0
      exact ⟨_, rfl, h1, rfl, fun q => by simp at q⟩
    · rintro e w' ⟨u, rfl, hA, hb⟩
      obtain ⟨a, c, e⟩ := hA.form
      have : (ansRun 1 [⟨1, 0, 0, 0⟩]).length = 1 := rfl
      rw [this] at e
      exact ⟨⟨a, c, by rw [e]⟩, hb⟩
  have drC : Hid (∀ W, Below w.heap.size w W → Calls Try.prog 6 #[.slice C len cap] W fun e w' => ∃ (mode : Int) (ops : List OpM) (a : Option Addr) (c : Nat), e = .returned (.tuple #[.int .i64 mode, .slice a ops.length c]) ∧ ListAt MopR 4 false W.heap.size w'.heap.size w' (.slice a ops.length c) ops ∧ ops.length ≤ 125 ∧ Below W.heap.size W w' ∧ w'.ownsRow W.heap.size 27 4 (.slice a ops.length c) ops.length (opsC ops)) := fun W hW => drawAt_calls C len cap W (hc.later hW)
  clear hc
  go_enter Try.func3, Try.ntmps3
  go_wp2_with (go_at_call 4; refine (show Calls _ _ _ _ _ from hbg.out _).mono ?_; rintro e w1 ⟨rfl, hw⟩; subst hw)
  refine (show Calls _ _ _ _ _ from im1.out _ (rangeAt_heap (heap_alloc_new w1 _)) (by simp)).mono ?_
  rintro e w2 ⟨⟨mu, mv, rfl⟩, hb2⟩
  have B2 : Hid (Below w1.heap.size w1 w2) := below_on2 (below_1 _ _) hb2
  clear hb2 im1
  go_wp2_with fail
  refine (show Calls _ _ _ _ _ from drC.out _ B2.out).mono ?_
  rintro e w3 ⟨mode, ops, xa, xc, rfl, X3, hl3, hb3, O3⟩
  have B3 : Hid (Below w1.heap.size w1 w3) := below_on2 B2.out hb3
  have hlH : Hid (ops.length ≤ 125) := hl3
  have X3H : Hid (ListAt MopR 4 false w2.heap.size w3.heap.size w3 (.slice xa ops.length xc) ops) := X3
  have O3H : Hid (w3.ownsRow w2.heap.size 27 4 (.slice xa ops.length xc) ops.length (opsC ops)) := O3
  clear drC B2 hb3 hl3 X3 hbg O3
  have imA : Hid (∀ W, Below w3.heap.size w3 W → Calls Try.prog 7 #[.int .i64 mode, .slice xa ops.length xc] W fun e w' => ∃ o r q, e = .returned (.agg #[o, r, .bool (atM mode ops).cyc, q]) ∧ TellI w' o r q (atM mode ops) ∧ Below W.heap.size W w') := fun W hW => implTell_calls W mode ops _ false _ _ (ListAt.kept MopR.stable X3H.out (Nat.le_refl _) (Nat.le_refl _) ((Same.below hW).mono (Nat.zero_le _) (Nat.le_refl _))) hW.size
  have spA : Hid (∀ W, Below w3.heap.size w3 W → Calls Try.prog 9 #[.int .i64 mode, .slice xa ops.length xc] W fun e w' => ∃ o r q, e = .returned (.agg #[o, r, .bool (atM mode ops).cyc, q]) ∧ Below W.heap.size W w' ∧ TellM w' o r q (atM mode ops)) := fun W hW => (specAtF_calls W mode ops _ false _ _ (ListAt.kept MopR.stable X3H.out (Nat.le_refl _) (Nat.le_refl _) ((Same.below hW).mono (Nat.zero_le _) (Nat.le_refl _))) hW.size (by have := hlH.out; omega)).mono fun e w' ⟨o, r, q, h1, _, h3, h4⟩ => ⟨o, r, q, h1, h3, h4⟩
  obtain ⟨hsy, hsm⟩ := atM_small mode ops
  have hsyH : Hid (¬ ((atM mode ops).rs.length > 8 ∨ (atM mode ops).os.length > 400)) := hsy
  have hsmH : Hid ((atM mode ops).small) := hsm
  have hrnH : Hid ((atM mode ops).rng) := atM_rng mode ops
  clear hsy hsm
  go_wp2_with fail
  refine (show Calls _ _ _ _ _ from imA.out _ (Below.refl _ _)).mono ?_
  rintro e w4 ⟨oh, rh, qh, rfl, TI, hb4⟩
  obtain ⟨a0, c0, a1, c1, a3, c3, rfl, rfl, rfl, hob, hro⟩ := TI
  clear imA
  have hcyH : Hid (runOk mode ops.length = true → (atM mode ops).cyc = (runM (newM mode) ops).cyc) := fun h => by
    unfold atM
    rw [if_pos h]
    rfl
  generalize atM mode ops = x at *
  go_upto_region 7 with fail
  have hb45 : Below w4.heap.size w4 (w4.alloc (.cells #[.slice a0 x.os.length c0, .slice a1 x.rs.length c1, .bool x.cyc, .slice a3 x.qs.length c3] 34)) := below_1 _ _
  have hh5 : (w4.alloc (.cells #[.slice a0 x.os.length c0, .slice a1 x.rs.length c1, .bool x.cyc, .slice a3 x.qs.length c3] 34)).heap[w4.heap.size]? = some (.cells #[.slice a0 x.os.length c0, .slice a1 x.rs.length c1, .bool x.cyc, .slice a3 x.qs.length c3] 34 (0, 0)) := heap_alloc_new w4 _
  have hs5 : w4.heap.size < (w4.alloc (.cells #[.slice a0 x.os.length c0, .slice a1 x.rs.length c1, .bool x.cyc, .slice a3 x.qs.length c3] 34)).heap.size := by simp
  generalize w4.alloc (.cells #[.slice a0 x.os.length c0, .slice a1 x.rs.length c1, .bool x.cyc, .slice a3 x.qs.length c3] 34) = W5 at *
  have hob5 : Hid (∀ (k : Nat) (hk : k < x.os.length), ∃ b fb fc, a0 = some ⟨b, 0, none⟩ ∧ b < W5.heap.size ∧ fb < W5.heap.size ∧ PobAt W5 b k x.os[k] fb fc) := fun k hk => by
    obtain ⟨b, fb, fc, e, h1, h2, h3⟩ := hob k hk
    exact ⟨b, fb, fc, e, by omega, by omega, h3.below hb45 h1 h2⟩
  have imR : Hid (Calls Try.prog 8 #[.agg #[.slice a0 x.os.length c0, .slice a1 x.rs.length c1, .bool x.cyc, .slice a3 x.qs.length c3]] W5 fun e w' => ∃ v, e = .returned v ∧ IntsAt W5.heap.size w'.heap.size w' v (liveL (x.os.map gobOf) x.rs) ∧ Below W5.heap.size W5 w') := implMark_ok x W5 c0 c1 c3 a0 a1 a3 hob5.out (fun W hW => hro W (below_on2 hb45 hW)) hsmH.out hrnH.out hsyH.out
  have B5 : Hid (Below w3.heap.size w3 W5) := below_on2 hb4 hb45
  have hh5H : Hid _ := hh5
  have hs5H : Hid _ := hs5
  clear hob hro hb4 hb45 hh5 hs5
  generalize w4.heap.size = bh at *
  go_wp2_with (refine wpList_load_row rfl 34 _ rfl bh rfl 34 _ _ _ hh5H.out Try.underlying34 rfl (by kernel_rfl) ?_)
  refine (show Calls _ _ _ _ _ from imR.out).mono ?_
  rintro e w6 ⟨lv, rfl, hL, hb6⟩
  obtain ⟨la, lc, rfl⟩ := hL.form
  have hLH : Hid (IntsAt W5.heap.size w6.heap.size w6 (.slice la (liveL (x.os.map gobOf) x.rs).length lc) (liveL (x.os.map gobOf) x.rs)) := hL
  have hb6H : Hid _ := hb6
  clear hL hb6 imR
  go_wp2_with fail
  refine (show Calls _ _ _ _ _ from spA.out _ (below_on2 B5.out hb6H.out)).mono ?_
  rintro e w7 ⟨ox, rx, qx, rfl, hb7, hT⟩
  have hb7H : Hid _ := hb7
  obtain ⟨⟨sa, sc, rfl, hsc, sob⟩, ⟨ra, rc, rfl, sro⟩, ⟨qa, qc, rfl⟩⟩ := hT
  clear hb7 spA
  go_upto_region 9 with fail
  have hb78 : Below w7.heap.size w7 (w7.alloc (.cells #[.slice sa x.os.length sc, .slice ra x.rs.length rc, .bool x.cyc, .slice qa x.qs.length qc] 34)) := below_1 _ _
  have hx8 : (w7.alloc (.cells #[.slice sa x.os.length sc, .slice ra x.rs.length rc, .bool x.cyc, .slice qa x.qs.length qc] 34)).heap[w7.heap.size]? = some (.cells #[.slice sa x.os.length sc, .slice ra x.rs.length rc, .bool x.cyc, .slice qa x.qs.length qc] 34 (0, 0)) := heap_alloc_new w7 _
  have hs8 : w7.heap.size < (w7.alloc (.cells #[.slice sa x.os.length sc, .slice ra x.rs.length rc, .bool x.cyc, .slice qa x.qs.length qc] 34)).heap.size := by simp
  generalize w7.alloc (.cells #[.slice sa x.os.length sc, .slice ra x.rs.length rc, .bool x.cyc, .slice qa x.qs.length qc] 34) = W8 at *
  have spR : Hid (Calls Try.prog 10 #[.agg #[.slice sa x.os.length sc, .slice ra x.rs.length rc, .bool x.cyc, .slice qa x.qs.length qc]] W8 fun e w' => ∃ v L, e = .returned v ∧ IntsAt W8.heap.size w'.heap.size w' v L ∧ (AscI L ∧ ∀ z, z ∈ L ↔ LvP x.os x.rs z) ∧ Below W8.heap.size W8 w') := specMark_yes x W8 sa sc rc qc ra qa (fun k hk => by
    obtain ⟨b0, fa, fc, e, h1, h2⟩ := sob k hk
    exact ⟨b0, fa, fc, e, h1, fun W hW => h2 W (below_on2 hb78 hW)⟩) (fun W hW => sro W (below_on2 hb78 hW)) hsmH.out.2.2.2 hsyH.out
  have b58 : Below W5.heap.size W5 W8 := below_on2 (below_on2 hb6H.out hb7H.out) hb78
  have hh8 : W8.heap[bh]? = _ := (b58.block _ hs5H.out).trans hh5H.out
  have k0 : W8.cell? ⟨bh, 0, none⟩ = some (.slice a0 x.os.length c0) := rangeAt_heap hh8 0 _ rfl
  have k2 : W8.cell? ⟨bh, 2, none⟩ = some (.bool x.cyc) := rangeAt_heap hh8 2 _ rfl
  have x0 : W8.cell? ⟨w7.heap.size, 0, none⟩ = some (.slice sa x.os.length sc) := rangeAt_heap hx8 0 _ rfl
  have hx8H : Hid _ := hx8
  have B8 : Hid (Below w3.heap.size w3 W8) := below_on2 B5.out b58
  have hob8 : Hid (∀ (k : Nat) (hk : k < x.os.length), ∃ b, a0 = some ⟨b, 0, none⟩ ∧ b < W8.heap.size ∧ W8.cell? ⟨b, k * 3, none⟩ = some (.int .i64 x.os[k].id)) := fun k hk => by
    obtain ⟨b, fb, fc, e, h1, h2, h3⟩ := hob5.out k hk
    have := b58.size
    exact ⟨b, e, by omega, (b58.cell (p := ⟨b, _, none⟩) h1).trans (by have := h3.r 0 _ rfl; rwa [Nat.add_zero] at this)⟩
  have hlv8 : Hid (∀ j (hj : j < (liveL (x.os.map gobOf) x.rs).length), ∃ b, la = some ⟨b, 0, none⟩ ∧ b < W8.heap.size ∧ W8.cell? ⟨b, j, none⟩ = some (.int .i64 (liveL (x.os.map gobOf) x.rs)[j])) := fun j hj => by
    obtain ⟨b, hb, g1, g2, g3, _⟩ := hLH.out.at j hj
    have b68 : Below w6.heap.size w6 W8 := below_on2 hb7H.out hb78
    have := b68.size
    exact ⟨b, hb, by omega, (b68.cell (p := ⟨b, _, none⟩) (by show b < _; omega)).trans g3⟩
  have hbn : Hid (bh < W8.heap.size) := by have := b58.size; have := hs5H.out; show _ < _; omega
  clear sob sro hb78 hx8 hs8 hb7H hb6H hLH hob5 hh5H hs5H B5 b58 hh8 hsc
  generalize w7.heap.size = bx at *
  have x1 : W8.cell? ⟨bx, 1, none⟩ = some (.slice ra x.rs.length rc) := rangeAt_heap hx8H.out 1 _ rfl
  have x2 : W8.cell? ⟨bx, 2, none⟩ = some (.bool x.cyc) := rangeAt_heap hx8H.out 2 _ rfl
  have x3 : W8.cell? ⟨bx, 3, none⟩ = some (.slice qa x.qs.length qc) := rangeAt_heap hx8H.out 3 _ rfl
  have hxn : Hid (bx < W8.heap.size) := lt_of_cell x0
  clear hx8H
  go_wp2_with fail
  refine (show Calls _ _ _ _ _ from spR.out).mono ?_
  rintro e w9 ⟨zv, Z, rfl, hZ, hZ2, hb9⟩
  obtain ⟨za, zc, rfl⟩ := hZ.form
  have hZE : Z = liveL (x.os.map gobOf) x.rs := asc_unique hZ2.1 (liveL_asc _ _) fun z => (hZ2.2 z).trans live_lv.symm
  subst hZE
  have k0' : w9.cell? ⟨bh, 0, none⟩ = some (.slice a0 x.os.length c0) := (hb9.cell (p := ⟨bh, _, none⟩) hbn.out).trans k0
  have k2' : w9.cell? ⟨bh, 2, none⟩ = some (.bool x.cyc) := (hb9.cell (p := ⟨bh, _, none⟩) hbn.out).trans k2
  have x2' : w9.cell? ⟨bx, 2, none⟩ = some (.bool x.cyc) := (hb9.cell (p := ⟨bx, _, none⟩) hxn.out).trans x2
  have B9 : Hid (Below w3.heap.size w3 w9) := below_on2 B8.out hb9
  have hbn9 : Hid (bh < w9.heap.size) := by have := hb9.size; have := hbn.out; show _ < _; omega
  have hob9 : Hid (∀ (k : Nat) (hk : k < x.os.length), ∃ b, a0 = some ⟨b, 0, none⟩ ∧ b < w9.heap.size ∧ w9.cell? ⟨b, k * 3, none⟩ = some (.int .i64 x.os[k].id)) := fun k hk => by
    obtain ⟨b, e, h1, h2⟩ := hob8.out k hk
    have := hb9.size
    exact ⟨b, e, by omega, (hb9.cell (p := ⟨b, _, none⟩) h1).trans h2⟩
  have hlv9 : Hid (∀ j (hj : j < (liveL (x.os.map gobOf) x.rs).length), ∃ b, la = some ⟨b, 0, none⟩ ∧ b < w9.heap.size ∧ w9.cell? ⟨b, j, none⟩ = some (.int .i64 (liveL (x.os.map gobOf) x.rs)[j])) := fun j hj => by
    obtain ⟨b, hb, g1, g2⟩ := hlv8.out j hj
    have := hb9.size
    exact ⟨b, hb, by omega, (hb9.cell (p := ⟨b, _, none⟩) g1).trans g2⟩
  clear hb9 hZ hZ2 hob8 hlv8 k0 k2 x0 x1 x2 x3 hxn hbn B8 spR
  have b19 : Hid (Below w1.heap.size w1 w9) := below_on2 B3.out B9.out
  obtain ⟨zs, hzs⟩ : ∃ zs, zs = x.os.map ObP.id := ⟨_, rfl⟩
  have hzl : Hid (zs.length = x.os.length) := by show _ = _; subst hzs; simp
  have hidc : Hid (∀ k, k < x.os.length → ∃ b z, a0 = some ⟨b, 0, none⟩ ∧ b < w9.heap.size ∧ w9.cell? ⟨b, k * 3, none⟩ = some (.int .i64 z) ∧ zs.take (k + 1) = zs.take k ++ [z]) := fun k hk => by
    obtain ⟨b, e, h1, h2⟩ := hob9.out k hk
    refine ⟨b, _, e, h1, h2, ?_⟩
    subst hzs
    rw [List.take_succ_eq_append_getElem (by simpa using hk), List.getElem_map]
  have hmem : Hid (∀ z ∈ liveL (x.os.map gobOf) x.rs, z ∈ zs) := fun z hz => by
    obtain ⟨_, o, ho, e⟩ := (live_lv.1 hz).has
    rw [hzs, ← e]
    exact List.mem_map_of_mem ho
  have hol : Hid (x.os.length ≤ 400) := by have := hsyH.out; show _ ≤ _; omega
  have hLl : Hid ((liveL (x.os.map gobOf) x.rs).length ≤ 400) := by
    have := asc_len (liveL_asc (x.os.map gobOf) x.rs) hmem.out
    have h1 := hzl.out
    have h2 := hol.out
    show _ ≤ _
    omega
  clear hob9 hzs hsyH hsmH hrnH
  generalize liveL (x.os.map gobOf) x.rs = LL at *
  generalize x.os.length = on at *
  generalize x.rs.length = rn at *
  generalize x.qs.length = qn at *
  generalize x.cyc = cy at *
  obtain ⟨i9, hi9, hz9, hs9, hb9⟩ := int_info
  have hO0 : Hid ((w9.alloc (.cells #[] 2)).ownsRow w9.heap.size 2 1 (.slice (some ⟨w9.heap.size, 0, none⟩) 0 0) 0 (intsV (zs.take 0))) := by
    show World.ownsRow _ _ _ _ _ _ _
    rw [List.take_zero]
    exact World.ownsRow_made w9 #[] 0 (Nat.le_refl _) (by unfold maxLen; omega) rfl
  have hB0 : Hid (Below w9.heap.size w9 (w9.alloc (.cells #[] 2))) := below_1 _ _
  go_wp2_with fail
  go_loopw [8, 9] (fun v8 iv wr => ∃ (m : Nat) (ia : Option Addr) (ic : Nat), m ≤ on ∧ v8 = .slice ia m ic ∧ iv = .int .i64 m ∧ Hid (wr.ownsRow w9.heap.size 2 1 (.slice ia m ic) m (intsV (zs.take m))) ∧ Hid (Below w9.heap.size w9 wr)) (fun _ iv _ => on - (intOf iv).toNat)
  case atStart => exact ⟨0, _, _, Nat.zero_le _, rfl, rfl, hO0, hB0⟩
  case round =>
    clear hO0 hB0
    obtain ⟨m, ia, ic, hm, rfl, rfl, hO, hB⟩ := hrel
    have hm0 : (0 : Int) ≤ m := by omega
    have hol' : (on : Int) ≤ 400 := by have := hol.out; omega
    have kr0 : wr.cell? ⟨bh, 0, none⟩ = some (.slice a0 on c0) := (hB.out.cell (p := ⟨bh, 0, none⟩) hbn9.out).trans k0'
    have kr2 : wr.cell? ⟨bh, 2, none⟩ = some (.bool cy) := (hB.out.cell (p := ⟨bh, 2, none⟩) hbn9.out).trans k2'
    by_cases hlt : m < on
    · have hlt' : (m : Int) < (on : Int) := by omega
      obtain ⟨b, z, rfl, hbs, hc, htk⟩ := hidc.out m hlt
      have hcr : wr.cell? ⟨b, m * 3, none⟩ = some (.int .i64 z) := (hB.out.cell (p := ⟨b, m * 3, none⟩) hbs).trans hc
      have hloA : Hid ((wr.alloc (.cells #[.int .i64 z] 2)).ownsRow w9.heap.size 2 1 (.slice ia m ic) m (intsV (zs.take m))) := own_kept hO.out fun k hk => Below.heap_alloc _ _ _ (World.ownsRow.lt hO.out k hk).2
      have hsrcA : Hid (SrcAt (wr.alloc (.cells #[.int .i64 z] 2)) 1 (.slice (some ⟨wr.heap.size, 0, none⟩) 1 1) 1 [.int .i64 z]) := src_one wr _ 2
      have hBs : Hid (w9.heap.size ≤ (wr.alloc (.cells #[.int .i64 z] 2)).heap.size) := by have := hB.out.size; show _ ≤ _; rw [World.size_alloc]; omega
      have hnx : Hid (∀ gv' w2, w2.ownsRow w9.heap.size 2 1 gv' (m + 1) (intsV (zs.take m) ++ [.int .i64 z]) → (wr.alloc (.cells #[.int .i64 z] 2)).grownBy w2 (Value.slice ia m ic).ownBlock → w2.ownsRow w9.heap.size 2 1 gv' (m + 1) (intsV (zs.take (m + 1))) ∧ Below w9.heap.size w9 w2) := fun gv' w2 g1 g2 => ⟨by rw [htk, intsV_append]; exact g1, grown_below hB.out hB.out.size _ (fun k hk => (World.ownsRow.lt hO.out k hk).1) g2⟩
      clear hB hO htk hc
      go_wp2_with (refine wpList_append_src rfl (.tmp 63) (.tmp 70) 32 rfl w9.heap.size 2 i9 (.int .i64 0) 1 8 Try.underlying32 hi9 hz9 hs9 hb9 rfl (by omega) _ m (intsV (zs.take m)) rfl hloA.out _ 1 [.int .i64 z] rfl hsrcA.out (by simp [Value.oneCell']) (by unfold maxLen; omega) (by omega) hBs.out (fun gv' w2 hown2 hgrow2 hat2 => ?_); have hn2 := hnx.out gv' w2 hown2 hgrow2; have hn2a : Hid _ := hn2.1; have hn2b : Hid _ := hn2.2; obtain ⟨ga', gc', rfl⟩ := own_slice hown2; clear hown2 hgrow2 hat2 hn2)
      go_roundw
      case rel => exact ⟨m + 1, ga', gc', by omega, rfl, by go_num, hn2a, hn2b⟩
      case measure => simp [intOf]; omega
    · have hge : ¬ ((m : Int) < (on : Int)) := by omega
      have hmE : m = on := by omega
      subst hmE
      have hOz : Hid (wr.ownsRow w9.heap.size 2 1 (.slice ia m ic) m (intsV zs)) := by
        have := hO.out
        rwa [show zs.take m = zs from by rw [← hzl.out, List.take_length]] at this
      have kr2H : Hid _ := kr2
      have hBH : Hid (Below w9.heap.size w9 wr) := hB
      have hmemr : Hid (∀ j (hj : j < LL.length), Calls Try.prog 11 #[.slice ia m ic, .int .i64 LL[j]] wr fun e w' => e = .returned (.bool true) ∧ w' = wr) := fun j hj => by
        have := hasNum_yes ia ic zs LL[j] wr (fun k hk => by
          have hkm : k < m := by have := hzl.out; omega
          obtain ⟨g, c, e⟩ := own_some hOz.out (by omega)
          injection e with e1 _ _
          have h2 := hOz.out
          rw [e1] at h2
          refine ⟨g, e1, ?_⟩
          rw [World.ownsRow.cellAt h2 k (by omega)]
          simp [intsV, hk]) (hmem.out _ (List.getElem_mem hj)) (by have := hzl.out; have := hol.out; omega)
        rwa [hzl.out] at this
      have hlvr : Hid (∀ j (hj : j < LL.length), ∃ b, la = some ⟨b, 0, none⟩ ∧ wr.cell? ⟨b, j, none⟩ = some (.int .i64 LL[j])) := fun j hj => by
        obtain ⟨b, e, h1, h2⟩ := hlv9.out j hj
        exact ⟨b, e, (hBH.out.cell (p := ⟨b, j, none⟩) h1).trans h2⟩
      have B1r : Hid (Below w1.heap.size w1 wr) := below_on2 b19.out hBH.out
      have B3r : Hid (Below w3.heap.size w3 wr) := below_on2 B9.out hBH.out
      have hbhr : Hid (bh < wr.heap.size) := lt_of_cell kr2
      clear hO hlt hB hBH hOz hlv9 hidc hmem hzl b19 B9 B3 hbn9 hol hol'
      go_wp2_with fail
      clear kr0 kr2 k0' k2' x2'
      go_loopw [10] (fun jv wj => ∃ j : Nat, j ≤ LL.length ∧ jv = .int .i64 j ∧ wj = wr) (fun jv _ => LL.length - (intOf jv).toNat)
      case atStart => exact ⟨0, Nat.zero_le _, rfl, rfl⟩
      case round =>
        obtain ⟨j, hj, rfl, hw⟩ := hrel
        have hw2 := hw.symm
        subst hw2
        clear hw
        have hj0 : (0 : Int) ≤ j := by omega
        have hLl' : (LL.length : Int) ≤ 400 := by have := hLl.out; omega
        by_cases hjl : j < LL.length
        · have hjl' : (j : Int) < (LL.length : Int) := by omega
          obtain ⟨b, rfl, hcl⟩ := hlvr.out j hjl
          have hhn : Hid _ := hmemr.out j hjl
          generalize LL[j] = z at *
          go_wp2_with (go_at_call 11; refine (show Calls _ _ _ _ _ from hhn.out).mono ?_; rintro e w10 ⟨rfl, hw10⟩; subst hw10)
          go_roundw
          case rel => exact ⟨j + 1, by omega, by go_num, by first | trivial | rfl⟩
          case measure => simp [intOf]; omega
        · have hge2 : ¬ ((j : Int) < (LL.length : Int)) := by omega
          have hn497 : ¬ ((497 : Int) < (ops.length : Int)) := by have := hlH.out; omega
          have kr2 : wr.cell? ⟨bh, 2, none⟩ = some (.bool cy) := kr2H.out
          clear hlvr hmemr hjl
          by_cases hmode : mode = 1 ∨ mode = 2
          · rcases hmode with rfl | rfl
            · go_upto_region 23 with fail
              have hok : runOk 1 ops.length = true := by have := hlH.out; simp [runOk]; omega
              obtain ⟨R, hR⟩ : ∃ R, R = restOps (runM (newM 1) ops) := ⟨_, rfl⟩
              have hRc : Hid (R = (if cy then [⟨8, 0, 0, 0⟩] else []) ++ [⟨6, 0, 0, 0⟩, ⟨8, 0, 0, 0⟩]) := by
                show _ = _
                rw [hR, hcyH.out hok]
                rfl
              obtain ⟨y, hy⟩ : ∃ y, y = atM 1 (ops ++ R) := ⟨_, rfl⟩
              have hyf : Hid (∀ Z, (AscI Z ∧ ∀ z, z ∈ Z ↔ LvP y.os y.rs z) → Z.length = y.os.length ∧ y.cyc = false) := fun Z hZ => by
                rw [hy, hR] at hZ ⊢
                exact rest_len (.inl rfl) (by have := hlH.out; omega) hZ
              have hyc : Hid (y.cyc = false) := (hyf.out (liveL (y.os.map gobOf) y.rs) ⟨liveL_asc _ _, fun z => live_lv⟩).2
              have hys : Hid (¬ (y.rs.length > 8 ∨ y.os.length > 400) ∧ y.small) := by rw [hy]; exact atM_small _ _
              have imA2 : Hid (∀ (W : World) (B : Nat) (v : Value), W.ownsRow B 27 4 v (ops.length + R.length) (opsC ops ++ opsC R) → Calls Try.prog 7 #[.int .i64 1, v] W fun e w' => ∃ o r q, e = .returned (.agg #[o, r, .bool false, q]) ∧ TellI w' o r q y ∧ Below W.heap.size W w') := fun W B v h => by
                rw [← hyc.out, hy]
                exact implTell_calls W 1 (ops ++ R) v false B W.heap.size (ops_list (by rw [opsC_append]; exact h) (by rw [List.length_append])) (Nat.le_refl _)
              clear hy hR hok hcyH
              obtain ⟨i8, hi8, hz8, hs8, hb8⟩ := info_parts (show (Try.prog.info? 27).map (fun i => (i.zero, i.size, i.bytes)) = some (some (.agg #[.int .i64 0, .int .i64 0, .int .i64 0, .int .i64 0]), 4, 32) by kernel_rfl)
              have hsO : Hid (SrcAt (wr.alloc (.cells #[] 27)) 4 (.slice xa ops.length xc) ops.length (opsC ops)) := ops_src (own_belowO O3H.out (below_on2 B3r.out (below_1 wr _))) rfl
              have hown0 : Hid ((wr.alloc (.cells #[] 27)).ownsRow wr.heap.size 27 4 (.slice (some ⟨wr.heap.size, 0, none⟩) 0 0) 0 []) := World.ownsRow_made wr #[] 0 (Nat.le_refl _) (by unfold maxLen; omega) rfl
              have hnx1 : Hid (∀ v' w', w'.ownsRow wr.heap.size 27 4 v' (0 + ops.length) ([] ++ opsC ops) → (wr.alloc (.cells #[] 27)).grownBy w' (Value.slice (some ⟨wr.heap.size, 0, none⟩) 0 0).ownBlock → w'.ownsRow wr.heap.size 27 4 v' ops.length (opsC ops) ∧ Below wr.heap.size wr w') := fun v' w' g1 g2 => ⟨by rw [Nat.zero_add] at g1; exact g1, grown_below (Below.refl _ _) (Nat.le_refl _) _ (fun k hk => (World.ownsRow.lt hown0.out k hk).1) g2⟩
              go_upto_region 24 with (refine wpList_append_src rfl (.tmp 96) (.tmp 97) 28 rfl wr.heap.size 27 i8 (.agg #[.int .i64 0, .int .i64 0, .int .i64 0, .int .i64 0]) 4 32 Try.underlying28 hi8 hz8 hs8 hb8 rfl (by omega) _ 0 [] rfl hown0.out _ ops.length (opsC ops) rfl hsO.out (opsC_one ops) (by have := hlH.out; unfold maxLen; omega) (by have := hlH.out; omega) (by rw [World.size_alloc]; omega) (fun va wA o2 g2 _ => ?_); have hA := hnx1.out va wA o2 g2; have wAo : Hid _ := hA.1; have wAb : Hid _ := hA.2; obtain ⟨va, vac, rfl⟩ := own_slice o2; clear o2 g2 hA)
              rw [Nat.zero_add] at *
              have krA : wA.cell? ⟨bh, 2, none⟩ = some (.bool cy) := (wAb.out.cell (p := ⟨bh, 2, none⟩) hbhr.out).trans kr2
              have hszA : wr.heap.size ≤ wA.heap.size := wAb.out.size
              clear hsO hown0 hnx1 kr2 kr2H
              cases cy with
              | true =>
                obtain ⟨p1, p2, p3, p4⟩ := rowSrc (k := 1) [.int .i64 8, .int .i64 0, .int .i64 0, .int .i64 0] wAb.out wAo.out hszA rfl
                have p1H : Hid _ := p1
                have p2H : Hid _ := p2
                have p3H : Hid _ := p3
                have hnx2 : Hid (∀ v' w', w'.ownsRow wr.heap.size 27 4 v' (ops.length + 1) (opsC ops ++ [.int .i64 8, .int .i64 0, .int .i64 0, .int .i64 0]) → (wA.alloc (.cells (List.toArray [.int .i64 8, .int .i64 0, .int .i64 0, .int .i64 0]) 27)).grownBy w' (Value.slice va ops.length vac).ownBlock → w'.ownsRow wr.heap.size 27 4 v' (ops.length + 1) (opsC ops ++ [.int .i64 8, .int .i64 0, .int .i64 0, .int .i64 0]) ∧ Below wr.heap.size wr w') := fun v' w' g1 g2 => ⟨g1, p4 w' g2⟩
                clear p1 p2 p3 p4 wAo wAb hszA
                go_upto_region 26 with (refine wpList_append_src rfl (.tmp 101) (.tmp 103) 28 rfl wr.heap.size 27 i8 (.agg #[.int .i64 0, .int .i64 0, .int .i64 0, .int .i64 0]) 4 32 Try.underlying28 hi8 hz8 hs8 hb8 rfl (by omega) _ ops.length (opsC ops) rfl p1H.out _ 1 [.int .i64 8, .int .i64 0, .int .i64 0, .int .i64 0] rfl p2H.out (by simp [Value.oneCell']) (by have := hlH.out; unfold maxLen; omega) (by have := hlH.out; omega) p3H.out (fun vb wB o2 g2 _ => ?_); have hA := hnx2.out vb wB o2 g2; have wBo : Hid _ := hA.1; have wBb : Hid _ := hA.2; obtain ⟨vb, vbc, rfl⟩ := own_slice o2; clear o2 g2 hA)
                have hszB : wr.heap.size ≤ wB.heap.size := wBb.out.size
                clear p1H p2H p3H hnx2 krA
                obtain ⟨p1, p2, p3, p4⟩ := rowSrc (k := 2) [.int .i64 6, .int .i64 0, .int .i64 0, .int .i64 0, .int .i64 8, .int .i64 0, .int .i64 0, .int .i64 0] wBb.out wBo.out hszB rfl
                have p1H : Hid _ := p1
                have p2H : Hid _ := p2
                have p3H : Hid _ := p3
                have hnx3 : Hid (∀ v' w', w'.ownsRow wr.heap.size 27 4 v' (ops.length + 1 + 2) ((opsC ops ++ [Value.int IntKind.i64 8, Value.int IntKind.i64 0, Value.int IntKind.i64 0, Value.int IntKind.i64 0]) ++ [.int .i64 6, .int .i64 0, .int .i64 0, .int .i64 0, .int .i64 8, .int .i64 0, .int .i64 0, .int .i64 0]) → (wB.alloc (.cells (List.toArray [.int .i64 6, .int .i64 0, .int .i64 0, .int .i64 0, .int .i64 8, .int .i64 0, .int .i64 0, .int .i64 0]) 27)).grownBy w' (Value.slice vb (ops.length + 1) vbc).ownBlock → w'.ownsRow wr.heap.size 27 4 v' (ops.length + R.length) (opsC ops ++ opsC R) ∧ Below wr.heap.size wr w') := fun v' w' g1 g2 => ⟨by rw [hRc.out]; simpa [opsC] using g1, p4 w' g2⟩
                clear p1 p2 p3 p4 wBo wBb hszB
                go_upto_region 27 with (refine wpList_append_src rfl (.tmp 105) (.tmp 108) 28 rfl wr.heap.size 27 i8 (.agg #[.int .i64 0, .int .i64 0, .int .i64 0, .int .i64 0]) 4 32 Try.underlying28 hi8 hz8 hs8 hb8 rfl (by omega) _ (ops.length + 1) (opsC ops ++ [Value.int IntKind.i64 8, Value.int IntKind.i64 0, Value.int IntKind.i64 0, Value.int IntKind.i64 0]) rfl p1H.out _ 2 [.int .i64 6, .int .i64 0, .int .i64 0, .int .i64 0, .int .i64 8, .int .i64 0, .int .i64 0, .int .i64 0] rfl p2H.out (by simp [Value.oneCell']) (by have := hlH.out; unfold maxLen; omega) (by have := hlH.out; omega) p3H.out (fun ve wE o2 g2 _ => ?_); have hA := hnx3.out ve wE o2 g2; have wEo : Hid _ := hA.1; have wEb : Hid _ := hA.2; obtain ⟨ve, vec, rfl⟩ := own_slice o2; clear o2 g2 hA)
                have imC : Hid _ := imA2.out wE wr.heap.size _ wEo.out
                have BE : Hid (Below w1.heap.size w1 wE) := below_on2 B1r.out wEb.out
                clear p1H p2H p3H hnx3 wEo wEb imA2 hRc
                go_wp2_with fail
                refine (show Calls _ _ _ _ _ from imC.out).mono ?_
                rintro e w5 ⟨oz, rz, qz, rfl, TI2, hb5⟩
                obtain ⟨z0, f0, z1, f1, z3, f3, rfl, rfl, rfl, hobz, hroz⟩ := TI2
                go_upto_region 28 with fail
                have hbV : Below w5.heap.size w5 (w5.alloc (.cells #[.slice z0 y.os.length f0, .slice z1 y.rs.length f1, .bool false, .slice z3 y.qs.length f3] 34)) := below_1 _ _
                have hzV : (w5.alloc (.cells #[.slice z0 y.os.length f0, .slice z1 y.rs.length f1, .bool false, .slice z3 y.qs.length f3] 34)).heap[w5.heap.size]? = some (.cells #[.slice z0 y.os.length f0, .slice z1 y.rs.length f1, .bool false, .slice z3 y.qs.length f3] 34 (0, 0)) := heap_alloc_new w5 _
                have hsV : w5.heap.size < (w5.alloc (.cells #[.slice z0 y.os.length f0, .slice z1 y.rs.length f1, .bool false, .slice z3 y.qs.length f3] 34)).heap.size := by simp
                generalize w5.alloc (.cells #[.slice z0 y.os.length f0, .slice z1 y.rs.length f1, .bool false, .slice z3 y.qs.length f3] 34) = V at *
                have hce : Hid (∀ W, Below V.heap.size V W → W.cell? ⟨w5.heap.size, 0, none⟩ = some (.slice z0 y.os.length f0) ∧ W.cell? ⟨w5.heap.size, 1, none⟩ = some (.slice z1 y.rs.length f1) ∧ W.cell? ⟨w5.heap.size, 2, none⟩ = some (.bool false) ∧ W.cell? ⟨w5.heap.size, 3, none⟩ = some (.slice z3 y.qs.length f3)) := fun W hW => by
                  have h := (hW.block _ hsV).trans hzV
                  exact ⟨rangeAt_heap h 0 _ rfl, rangeAt_heap h 1 _ rfl, rangeAt_heap h 2 _ rfl, rangeAt_heap h 3 _ rfl⟩
                have spL : Hid (∀ W, Below V.heap.size V W → Calls Try.prog 10 #[.agg #[.slice z0 y.os.length f0, .slice z1 y.rs.length f1, .bool false, .slice z3 y.qs.length f3]] W fun e w' => (∃ a c, e = .returned (.slice a y.os.length c)) ∧ Below W.heap.size W w') := fun W hW => by
                  rw [← hyc.out]
                  exact reached_len (fun Z hZ => (hyf.out Z hZ).1) hys.out.2 hys.out.1 hobz hroz W (below_on2 hbV hW)
                have BV : Hid (Below w1.heap.size w1 V) := below_on2 BE.out (below_on2 hb5 hbV)
                clear hbV hzV hsV hobz hroz hb5 BE imC hyf hyc hys B1r B3r hbhr hi8 hz8 hs8 hb8 O3H X3H hi9 hz9 hs9 hb9 hlH hLl hn497 hge hge2
                generalize y.os.length = yn at *
                generalize y.rs.length = yr at *
                generalize y.qs.length = yq at *
                generalize w5.heap.size = bz at *
                refine wp_region_own (by kernel_rfl) (fun vs => { tmps := #[.slice C len cap, undef, vs 12, .int .i64 1, .slice xa ops.length xc, .pointer (some ⟨bh, 0, none⟩), .slice la LL.length lc, .pointer (some ⟨bx, 0, none⟩), .slice ia m ic, .int .i64 (m : Nat), .int .i64 (j : Nat), .slice ve (ops.length + 1 + 2) vec, .pointer (some ⟨bz, 0, none⟩), .slice C len cap, .bool false, .agg #[.int .i64 1, .int .i64 0, .int .i64 0, .int .i64 0], .slice (some ⟨w1.heap.size, 0, none⟩) 1 1, .slice mu 1 mv, .int .i64 1, .bool false, .tuple #[.int .i64 1, .slice xa ops.length xc], .slice C len cap, .tuple #[.int .i64 1, .slice xa ops.length xc], .int .i64 1, .slice xa ops.length xc, .int .i64 1, .slice xa ops.length xc, .agg #[.slice a0 m c0, .slice a1 rn c1, .bool true, .slice a3 qn c3], .agg #[.slice a0 m c0, .slice a1 rn c1, .bool true, .slice a3 qn c3], .slice la LL.length lc, .int .i64 1, .slice xa ops.length xc, .agg #[.slice sa m sc, .slice ra rn rc, .bool true, .slice qa qn qc], .pointer (some ⟨bh, 0, none⟩), .slice a0 m c0, .int .i64 (m : Nat), .pointer (some ⟨bx, 0, none⟩), .slice sa m sc, .int .i64 (m : Nat), .bool false, .bool false, .slice la LL.length lc, .int .i64 (LL.length : Nat), .agg #[.slice sa m sc, .slice ra rn rc, .bool true, .slice qa qn qc], .slice za LL.length zc, .int .i64 (LL.length : Nat), .bool false, .bool false, .bool false, .pointer (some ⟨bh, 2, none⟩), .bool true, .pointer (some ⟨bx, 2, none⟩), .bool true, .bool false, .bool false, .slice (some ⟨w9.heap.size, 0, none⟩) 0 0, .int .i64 (m : Nat), .pointer (some ⟨bh, 0, none⟩), .slice a0 m c0, .int .i64 (m : Nat), .bool false, u61, u62, u63, u64, u65, u66, u67, u68, u69, u70, u71, .int .i64 (j : Nat), .slice la LL.length lc, .int .i64 (LL.length : Nat), .bool false, u76, u77, u78, u79, u80, u81, u82, u83, u84, .slice xa ops.length xc, .int .i64 (ops.length : Nat), .bool false, .bool false, .int .i64 1, .bool false, .bool false, undef, undef, .bool false, .bool false, .slice (some ⟨wr.heap.size, 0, none⟩) 0 0, .slice xa ops.length xc, .slice va ops.length vac, .pointer (some ⟨bh, 2, none⟩), .bool true, .slice va ops.length vac, .agg #[.int .i64 8, .int .i64 0, .int .i64 0, .int .i64 0], .slice (some ⟨wA.heap.size, 0, none⟩) 1 1, .slice vb (ops.length + 1) vbc, .slice vb (ops.length + 1) vbc, .agg #[.int .i64 6, .int .i64 0, .int .i64 0, .int .i64 0], .agg #[.int .i64 8, .int .i64 0, .int .i64 0, .int .i64 0], .slice (some ⟨wB.heap.size, 0, none⟩) 2 2, .slice ve (ops.length + 1 + 2) vec, .int .i64 1, .slice ve (ops.length + 1 + 2) vec, .agg #[.slice z0 yn f0, .slice z1 yr f1, .bool false, .slice z3 yq f3], vs 0, vs 1, vs 2, vs 3, vs 4, vs 5, vs 6, vs 7, vs 8, vs 9, vs 10, vs 11], defers := [] }) (lvc 4 yn [.pointer (some ⟨bz, 0, none⟩), .slice z0 yn f0, .int .i64 yn, .agg #[.slice z0 yn f0, .slice z1 yr f1, .bool false, .slice z3 yq f3], undef, .int .i64 yn, .bool true, .bool true, .pointer (some ⟨bz, 2, none⟩), .bool false, .bool true, .bool true, .bool true]) (fun i => if i = 12 then u2 else undef) rfl (fun _ _ _ _ _ _ _ _ h => h) (allAt_all ⟨?_, ?_, ?_, ?_, ?_, ?_, ?_, ?_, ?_, ?_, ?_, ?_, ?_, trivial⟩) ?_ (regForward_done (by kernel_rfl))
                case refine_1 =>
                  intro vs lo hi W hB hv
                  clear hv
                  go_wp2
                  exact ⟨.pointer (some ⟨bz, 0, none⟩), by rfl, Below.refl _ _, rfl⟩
                case refine_2 =>
                  intro vs lo hi W hB hv
                  have e0 : vs 0 = .pointer (some ⟨bz, 0, none⟩) := ((hv ⟨0, .data⟩ (by simp) rfl).1)
                  obtain ⟨g0, g1, g2, g3⟩ := hce.out W hB
                  clear hv
                  simp only [e0]
                  go_wp2
                  exact ⟨.slice z0 yn f0, by show _ = ({ tmps := #[.slice C len cap, undef, vs 12, .int .i64 1, .slice xa ops.length xc, .pointer (some ⟨bh, 0, none⟩), .slice la LL.length lc, .pointer (some ⟨bx, 0, none⟩), .slice ia m ic, .int .i64 (m : Nat), .int .i64 (j : Nat), .slice ve (ops.length + 1 + 2) vec, .pointer (some ⟨bz, 0, none⟩), .slice C len cap, .bool false, .agg #[.int .i64 1, .int .i64 0, .int .i64 0, .int .i64 0], .slice (some ⟨w1.heap.size, 0, none⟩) 1 1, .slice mu 1 mv, .int .i64 1, .bool false, .tuple #[.int .i64 1, .slice xa ops.length xc], .slice C len cap, .tuple #[.int .i64 1, .slice xa ops.length xc], .int .i64 1, .slice xa ops.length xc, .int .i64 1, .slice xa ops.length xc, .agg #[.slice a0 m c0, .slice a1 rn c1, .bool true, .slice a3 qn c3], .agg #[.slice a0 m c0, .slice a1 rn c1, .bool true, .slice a3 qn c3], .slice la LL.length lc, .int .i64 1, .slice xa ops.length xc, .agg #[.slice sa m sc, .slice ra rn rc, .bool true, .slice qa qn qc], .pointer (some ⟨bh, 0, none⟩), .slice a0 m c0, .int .i64 (m : Nat), .pointer (some ⟨bx, 0, none⟩), .slice sa m sc, .int .i64 (m : Nat), .bool false, .bool false, .slice la LL.length lc, .int .i64 (LL.length : Nat), .agg #[.slice sa m sc, .slice ra rn rc, .bool true, .slice qa qn qc], .slice za LL.length zc, .int .i64 (LL.length : Nat), .bool false, .bool false, .bool false, .pointer (some ⟨bh, 2, none⟩), .bool true, .pointer (some ⟨bx, 2, none⟩), .bool true, .bool false, .bool false, .slice (some ⟨w9.heap.size, 0, none⟩) 0 0, .int .i64 (m : Nat), .pointer (some ⟨bh, 0, none⟩), .slice a0 m c0, .int .i64 (m : Nat), .bool false, u61, u62, u63, u64, u65, u66, u67, u68, u69, u70, u71, .int .i64 (j : Nat), .slice la LL.length lc, .int .i64 (LL.length : Nat), .bool false, u76, u77, u78, u79, u80, u81, u82, u83, u84, .slice xa ops.length xc, .int .i64 (ops.length : Nat), .bool false, .bool false, .int .i64 1, .bool false, .bool false, undef, undef, .bool false, .bool false, .slice (some ⟨wr.heap.size, 0, none⟩) 0 0, .slice xa ops.length xc, .slice va ops.length vac, .pointer (some ⟨bh, 2, none⟩), .bool true, .slice va ops.length vac, .agg #[.int .i64 8, .int .i64 0, .int .i64 0, .int .i64 0], .slice (some ⟨wA.heap.size, 0, none⟩) 1 1, .slice vb (ops.length + 1) vbc, .slice vb (ops.length + 1) vbc, .agg #[.int .i64 6, .int .i64 0, .int .i64 0, .int .i64 0], .agg #[.int .i64 8, .int .i64 0, .int .i64 0, .int .i64 0], .slice (some ⟨wB.heap.size, 0, none⟩) 2 2, .slice ve (ops.length + 1 + 2) vec, .int .i64 1, .slice ve (ops.length + 1 + 2) vec, .agg #[.slice z0 yn f0, .slice z1 yr f1, .bool false, .slice z3 yq f3], vs 0, .slice z0 yn f0, vs 2, vs 3, vs 4, vs 5, vs 6, vs 7, vs 8, vs 9, vs 10, vs 11], defers := [] } : Act); rw [e0], Below.refl _ _, rfl⟩
                case refine_3 =>
                  intro vs lo hi W hB hv
                  have e1 : vs 1 = .slice z0 yn f0 := ((hv ⟨1, .data⟩ (by simp) rfl).1)
                  clear hv
                  simp only [e1]
                  go_wp2
                  exact ⟨.int .i64 yn, by first | (rw [← e1]; rfl) | (simp [upd, e1]), Below.refl _ _, rfl⟩
                case refine_4 =>
                  intro vs lo hi W hB hv
                  obtain ⟨g0, g1, g2, g3⟩ := hce.out W hB
                  clear hv
                  go_wp2
                  exact ⟨.agg #[.slice z0 yn f0, .slice z1 yr f1, .bool false, .slice z3 yq f3], by rfl, Below.refl _ _, rfl⟩
                case refine_5 =>
                  intro vs lo hi W hB hv
                  have e3 : vs 3 = .agg #[.slice z0 yn f0, .slice z1 yr f1, .bool false, .slice z3 yq f3] := ((hv ⟨3, .data⟩ (by simp) rfl).1)
                  have hq : Hid _ := spL.out W hB
                  clear hv
                  simp only [e3]
                  go_wp2_with (go_at_call 10; refine (show Calls _ _ _ _ _ from hq.out).mono ?_; rintro e W2 ⟨⟨ua, uc, rfl⟩, hB2⟩)
                  exact ⟨.slice ua yn uc, by show _ = ({ tmps := #[.slice C len cap, undef, vs 12, .int .i64 1, .slice xa ops.length xc, .pointer (some ⟨bh, 0, none⟩), .slice la LL.length lc, .pointer (some ⟨bx, 0, none⟩), .slice ia m ic, .int .i64 (m : Nat), .int .i64 (j : Nat), .slice ve (ops.length + 1 + 2) vec, .pointer (some ⟨bz, 0, none⟩), .slice C len cap, .bool false, .agg #[.int .i64 1, .int .i64 0, .int .i64 0, .int .i64 0], .slice (some ⟨w1.heap.size, 0, none⟩) 1 1, .slice mu 1 mv, .int .i64 1, .bool false, .tuple #[.int .i64 1, .slice xa ops.length xc], .slice C len cap, .tuple #[.int .i64 1, .slice xa ops.length xc], .int .i64 1, .slice xa ops.length xc, .int .i64 1, .slice xa ops.length xc, .agg #[.slice a0 m c0, .slice a1 rn c1, .bool true, .slice a3 qn c3], .agg #[.slice a0 m c0, .slice a1 rn c1, .bool true, .slice a3 qn c3], .slice la LL.length lc, .int .i64 1, .slice xa ops.length xc, .agg #[.slice sa m sc, .slice ra rn rc, .bool true, .slice qa qn qc], .pointer (some ⟨bh, 0, none⟩), .slice a0 m c0, .int .i64 (m : Nat), .pointer (some ⟨bx, 0, none⟩), .slice sa m sc, .int .i64 (m : Nat), .bool false, .bool false, .slice la LL.length lc, .int .i64 (LL.length : Nat), .agg #[.slice sa m sc, .slice ra rn rc, .bool true, .slice qa qn qc], .slice za LL.length zc, .int .i64 (LL.length : Nat), .bool false, .bool false, .bool false, .pointer (some ⟨bh, 2, none⟩), .bool true, .pointer (some ⟨bx, 2, none⟩), .bool true, .bool false, .bool false, .slice (some ⟨w9.heap.size, 0, none⟩) 0 0, .int .i64 (m : Nat), .pointer (some ⟨bh, 0, none⟩), .slice a0 m c0, .int .i64 (m : Nat), .bool false, u61, u62, u63, u64, u65, u66, u67, u68, u69, u70, u71, .int .i64 (j : Nat), .slice la LL.length lc, .int .i64 (LL.length : Nat), .bool false, u76, u77, u78, u79, u80, u81, u82, u83, u84, .slice xa ops.length xc, .int .i64 (ops.length : Nat), .bool false, .bool false, .int .i64 1, .bool false, .bool false, undef, undef, .bool false, .bool false, .slice (some ⟨wr.heap.size, 0, none⟩) 0 0, .slice xa ops.length xc, .slice va ops.length vac, .pointer (some ⟨bh, 2, none⟩), .bool true, .slice va ops.length vac, .agg #[.int .i64 8, .int .i64 0, .int .i64 0, .int .i64 0], .slice (some ⟨wA.heap.size, 0, none⟩) 1 1, .slice vb (ops.length + 1) vbc, .slice vb (ops.length + 1) vbc, .agg #[.int .i64 6, .int .i64 0, .int .i64 0, .int .i64 0], .agg #[.int .i64 8, .int .i64 0, .int .i64 0, .int .i64 0], .slice (some ⟨wB.heap.size, 0, none⟩) 2 2, .slice ve (ops.length + 1 + 2) vec, .int .i64 1, .slice ve (ops.length + 1 + 2) vec, .agg #[.slice z0 yn f0, .slice z1 yr f1, .bool false, .slice z3 yq f3], vs 0, vs 1, vs 2, vs 3, .slice ua yn uc, vs 5, vs 6, vs 7, vs 8, vs 9, vs 10, vs 11], defers := [] } : Act); rw [e3], hB2, ⟨_, _, rfl⟩⟩
                case refine_6 =>
                  intro vs lo hi W hB hv
                  obtain ⟨ua, uc, e4⟩ := (show ∃ a c, vs 4 = Value.slice a yn c from (hv ⟨4, .data⟩ (by simp) rfl).1)
                  clear hv
                  simp only [e4]
                  go_wp2
                  exact ⟨.int .i64 yn, by first | (rw [← e4]; rfl) | (simp [upd, e4]), Below.refl _ _, rfl⟩
                case refine_7 =>
                  intro vs lo hi W hB hv
                  have e2 : vs 2 = .int .i64 yn := ((hv ⟨2, .data⟩ (by simp) rfl).1)
                  have e5 : vs 5 = .int .i64 yn := ((hv ⟨5, .data⟩ (by simp) rfl).1)
                  clear hv
                  simp only [e2, e5]
                  go_wp2
                  exact ⟨.bool true, by show _ = ({ tmps := #[.slice C len cap, undef, vs 12, .int .i64 1, .slice xa ops.length xc, .pointer (some ⟨bh, 0, none⟩), .slice la LL.length lc, .pointer (some ⟨bx, 0, none⟩), .slice ia m ic, .int .i64 (m : Nat), .int .i64 (j : Nat), .slice ve (ops.length + 1 + 2) vec, .pointer (some ⟨bz, 0, none⟩), .slice C len cap, .bool false, .agg #[.int .i64 1, .int .i64 0, .int .i64 0, .int .i64 0], .slice (some ⟨w1.heap.size, 0, none⟩) 1 1, .slice mu 1 mv, .int .i64 1, .bool false, .tuple #[.int .i64 1, .slice xa ops.length xc], .slice C len cap, .tuple #[.int .i64 1, .slice xa ops.length xc], .int .i64 1, .slice xa ops.length xc, .int .i64 1, .slice xa ops.length xc, .agg #[.slice a0 m c0, .slice a1 rn c1, .bool true, .slice a3 qn c3], .agg #[.slice a0 m c0, .slice a1 rn c1, .bool true, .slice a3 qn c3], .slice la LL.length lc, .int .i64 1, .slice xa ops.length xc, .agg #[.slice sa m sc, .slice ra rn rc, .bool true, .slice qa qn qc], .pointer (some ⟨bh, 0, none⟩), .slice a0 m c0, .int .i64 (m : Nat), .pointer (some ⟨bx, 0, none⟩), .slice sa m sc, .int .i64 (m : Nat), .bool false, .bool false, .slice la LL.length lc, .int .i64 (LL.length : Nat), .agg #[.slice sa m sc, .slice ra rn rc, .bool true, .slice qa qn qc], .slice za LL.length zc, .int .i64 (LL.length : Nat), .bool false, .bool false, .bool false, .pointer (some ⟨bh, 2, none⟩), .bool true, .pointer (some ⟨bx, 2, none⟩), .bool true, .bool false, .bool false, .slice (some ⟨w9.heap.size, 0, none⟩) 0 0, .int .i64 (m : Nat), .pointer (some ⟨bh, 0, none⟩), .slice a0 m c0, .int .i64 (m : Nat), .bool false, u61, u62, u63, u64, u65, u66, u67, u68, u69, u70, u71, .int .i64 (j : Nat), .slice la LL.length lc, .int .i64 (LL.length : Nat), .bool false, u76, u77, u78, u79, u80, u81, u82, u83, u84, .slice xa ops.length xc, .int .i64 (ops.length : Nat), .bool false, .bool false, .int .i64 1, .bool false, .bool false, undef, undef, .bool false, .bool false, .slice (some ⟨wr.heap.size, 0, none⟩) 0 0, .slice xa ops.length xc, .slice va ops.length vac, .pointer (some ⟨bh, 2, none⟩), .bool true, .slice va ops.length vac, .agg #[.int .i64 8, .int .i64 0, .int .i64 0, .int .i64 0], .slice (some ⟨wA.heap.size, 0, none⟩) 1 1, .slice vb (ops.length + 1) vbc, .slice vb (ops.length + 1) vbc, .agg #[.int .i64 6, .int .i64 0, .int .i64 0, .int .i64 0], .agg #[.int .i64 8, .int .i64 0, .int .i64 0, .int .i64 0], .slice (some ⟨wB.heap.size, 0, none⟩) 2 2, .slice ve (ops.length + 1 + 2) vec, .int .i64 1, .slice ve (ops.length + 1 + 2) vec, .agg #[.slice z0 yn f0, .slice z1 yr f1, .bool false, .slice z3 yq f3], vs 0, vs 1, vs 2, vs 3, vs 4, vs 5, .bool true, vs 7, vs 8, vs 9, vs 10, vs 11], defers := [] } : Act); rw [e2, e5], Below.refl _ _, rfl⟩
                case refine_8 =>
                  intro vs lo hi W hB hv
                  have e6 : vs 6 = .bool true := ((hv ⟨6, .data⟩ (by simp) rfl).1)
                  clear hv
                  simp only [e6]
                  go_wp2
                  exact ⟨.bool true, by show _ = ({ tmps := #[.slice C len cap, undef, vs 12, .int .i64 1, .slice xa ops.length xc, .pointer (some ⟨bh, 0, none⟩), .slice la LL.length lc, .pointer (some ⟨bx, 0, none⟩), .slice ia m ic, .int .i64 (m : Nat), .int .i64 (j : Nat), .slice ve (ops.length + 1 + 2) vec, .pointer (some ⟨bz, 0, none⟩), .slice C len cap, .bool false, .agg #[.int .i64 1, .int .i64 0, .int .i64 0, .int .i64 0], .slice (some ⟨w1.heap.size, 0, none⟩) 1 1, .slice mu 1 mv, .int .i64 1, .bool false, .tuple #[.int .i64 1, .slice xa ops.length xc], .slice C len cap, .tuple #[.int .i64 1, .slice xa ops.length xc], .int .i64 1, .slice xa ops.length xc, .int .i64 1, .slice xa ops.length xc, .agg #[.slice a0 m c0, .slice a1 rn c1, .bool true, .slice a3 qn c3], .agg #[.slice a0 m c0, .slice a1 rn c1, .bool true, .slice a3 qn c3], .slice la LL.length lc, .int .i64 1, .slice xa ops.length xc, .agg #[.slice sa m sc, .slice ra rn rc, .bool true, .slice qa qn qc], .pointer (some ⟨bh, 0, none⟩), .slice a0 m c0, .int .i64 (m : Nat), .pointer (some ⟨bx, 0, none⟩), .slice sa m sc, .int .i64 (m : Nat), .bool false, .bool false, .slice la LL.length lc, .int .i64 (LL.length : Nat), .agg #[.slice sa m sc, .slice ra rn rc, .bool true, .slice qa qn qc], .slice za LL.length zc, .int .i64 (LL.length : Nat), .bool false, .bool false, .bool false, .pointer (some ⟨bh, 2, none⟩), .bool true, .pointer (some ⟨bx, 2, none⟩), .bool true, .bool false, .bool false, .slice (some ⟨w9.heap.size, 0, none⟩) 0 0, .int .i64 (m : Nat), .pointer (some ⟨bh, 0, none⟩), .slice a0 m c0, .int .i64 (m : Nat), .bool false, u61, u62, u63, u64, u65, u66, u67, u68, u69, u70, u71, .int .i64 (j : Nat), .slice la LL.length lc, .int .i64 (LL.length : Nat), .bool false, u76, u77, u78, u79, u80, u81, u82, u83, u84, .slice xa ops.length xc, .int .i64 (ops.length : Nat), .bool false, .bool false, .int .i64 1, .bool false, .bool false, undef, undef, .bool false, .bool false, .slice (some ⟨wr.heap.size, 0, none⟩) 0 0, .slice xa ops.length xc, .slice va ops.length vac, .pointer (some ⟨bh, 2, none⟩), .bool true, .slice va ops.length vac, .agg #[.int .i64 8, .int .i64 0, .int .i64 0, .int .i64 0], .slice (some ⟨wA.heap.size, 0, none⟩) 1 1, .slice vb (ops.length + 1) vbc, .slice vb (ops.length + 1) vbc, .agg #[.int .i64 6, .int .i64 0, .int .i64 0, .int .i64 0], .agg #[.int .i64 8, .int .i64 0, .int .i64 0, .int .i64 0], .slice (some ⟨wB.heap.size, 0, none⟩) 2 2, .slice ve (ops.length + 1 + 2) vec, .int .i64 1, .slice ve (ops.length + 1 + 2) vec, .agg #[.slice z0 yn f0, .slice z1 yr f1, .bool false, .slice z3 yq f3], vs 0, vs 1, vs 2, vs 3, vs 4, vs 5, vs 6, .bool true, vs 8, vs 9, vs 10, vs 11], defers := [] } : Act); rw [e6], Below.refl _ _, rfl⟩
                case refine_9 =>
                  intro vs lo hi W hB hv
                  have e7 : vs 7 = .bool true := ((hv ⟨7, .guard⟩ (by simp) rfl).1)
                  clear hv
                  simp only [e7]
                  go_wp2
                  exact ⟨.pointer (some ⟨bz, 2, none⟩), by show _ = ({ tmps := #[.slice C len cap, undef, vs 12, .int .i64 1, .slice xa ops.length xc, .pointer (some ⟨bh, 0, none⟩), .slice la LL.length lc, .pointer (some ⟨bx, 0, none⟩), .slice ia m ic, .int .i64 (m : Nat), .int .i64 (j : Nat), .slice ve (ops.length + 1 + 2) vec, .pointer (some ⟨bz, 0, none⟩), .slice C len cap, .bool false, .agg #[.int .i64 1, .int .i64 0, .int .i64 0, .int .i64 0], .slice (some ⟨w1.heap.size, 0, none⟩) 1 1, .slice mu 1 mv, .int .i64 1, .bool false, .tuple #[.int .i64 1, .slice xa ops.length xc], .slice C len cap, .tuple #[.int .i64 1, .slice xa ops.length xc], .int .i64 1, .slice xa ops.length xc, .int .i64 1, .slice xa ops.length xc, .agg #[.slice a0 m c0, .slice a1 rn c1, .bool true, .slice a3 qn c3], .agg #[.slice a0 m c0, .slice a1 rn c1, .bool true, .slice a3 qn c3], .slice la LL.length lc, .int .i64 1, .slice xa ops.length xc, .agg #[.slice sa m sc, .slice ra rn rc, .bool true, .slice qa qn qc], .pointer (some ⟨bh, 0, none⟩), .slice a0 m c0, .int .i64 (m : Nat), .pointer (some ⟨bx, 0, none⟩), .slice sa m sc, .int .i64 (m : Nat), .bool false, .bool false, .slice la LL.length lc, .int .i64 (LL.length : Nat), .agg #[.slice sa m sc, .slice ra rn rc, .bool true, .slice qa qn qc], .slice za LL.length zc, .int .i64 (LL.length : Nat), .bool false, .bool false, .bool false, .pointer (some ⟨bh, 2, none⟩), .bool true, .pointer (some ⟨bx, 2, none⟩), .bool true, .bool false, .bool false, .slice (some ⟨w9.heap.size, 0, none⟩) 0 0, .int .i64 (m : Nat), .pointer (some ⟨bh, 0, none⟩), .slice a0 m c0, .int .i64 (m : Nat), .bool false, u61, u62, u63, u64, u65, u66, u67, u68, u69, u70, u71, .int .i64 (j : Nat), .slice la LL.length lc, .int .i64 (LL.length : Nat), .bool false, u76, u77, u78, u79, u80, u81, u82, u83, u84, .slice xa ops.length xc, .int .i64 (ops.length : Nat), .bool false, .bool false, .int .i64 1, .bool false, .bool false, undef, undef, .bool false, .bool false, .slice (some ⟨wr.heap.size, 0, none⟩) 0 0, .slice xa ops.length xc, .slice va ops.length vac, .pointer (some ⟨bh, 2, none⟩), .bool true, .slice va ops.length vac, .agg #[.int .i64 8, .int .i64 0, .int .i64 0, .int .i64 0], .slice (some ⟨wA.heap.size, 0, none⟩) 1 1, .slice vb (ops.length + 1) vbc, .slice vb (ops.length + 1) vbc, .agg #[.int .i64 6, .int .i64 0, .int .i64 0, .int .i64 0], .agg #[.int .i64 8, .int .i64 0, .int .i64 0, .int .i64 0], .slice (some ⟨wB.heap.size, 0, none⟩) 2 2, .slice ve (ops.length + 1 + 2) vec, .int .i64 1, .slice ve (ops.length + 1 + 2) vec, .agg #[.slice z0 yn f0, .slice z1 yr f1, .bool false, .slice z3 yq f3], vs 0, vs 1, vs 2, vs 3, vs 4, vs 5, vs 6, vs 7, .pointer (some ⟨bz, 2, none⟩), vs 9, vs 10, vs 11], defers := [] } : Act); rw [e7], Below.refl _ _, rfl⟩
                case refine_10 =>
                  intro vs lo hi W hB hv
                  have e8 : vs 8 = .pointer (some ⟨bz, 2, none⟩) := ((hv ⟨8, .data⟩ (by simp) rfl).1)
                  have e7 : vs 7 = .bool true := ((hv ⟨7, .guard⟩ (by simp) rfl).1)
                  obtain ⟨g0, g1, g2, g3⟩ := hce.out W hB
                  clear hv
                  simp only [e8, e7]
                  go_wp2
                  exact ⟨.bool false, by show _ = ({ tmps := #[.slice C len cap, undef, vs 12, .int .i64 1, .slice xa ops.length xc, .pointer (some ⟨bh, 0, none⟩), .slice la LL.length lc, .pointer (some ⟨bx, 0, none⟩), .slice ia m ic, .int .i64 (m : Nat), .int .i64 (j : Nat), .slice ve (ops.length + 1 + 2) vec, .pointer (some ⟨bz, 0, none⟩), .slice C len cap, .bool false, .agg #[.int .i64 1, .int .i64 0, .int .i64 0, .int .i64 0], .slice (some ⟨w1.heap.size, 0, none⟩) 1 1, .slice mu 1 mv, .int .i64 1, .bool false, .tuple #[.int .i64 1, .slice xa ops.length xc], .slice C len cap, .tuple #[.int .i64 1, .slice xa ops.length xc], .int .i64 1, .slice xa ops.length xc, .int .i64 1, .slice xa ops.length xc, .agg #[.slice a0 m c0, .slice a1 rn c1, .bool true, .slice a3 qn c3], .agg #[.slice a0 m c0, .slice a1 rn c1, .bool true, .slice a3 qn c3], .slice la LL.length lc, .int .i64 1, .slice xa ops.length xc, .agg #[.slice sa m sc, .slice ra rn rc, .bool true, .slice qa qn qc], .pointer (some ⟨bh, 0, none⟩), .slice a0 m c0, .int .i64 (m : Nat), .pointer (some ⟨bx, 0, none⟩), .slice sa m sc, .int .i64 (m : Nat), .bool false, .bool false, .slice la LL.length lc, .int .i64 (LL.length : Nat), .agg #[.slice sa m sc, .slice ra rn rc, .bool true, .slice qa qn qc], .slice za LL.length zc, .int .i64 (LL.length : Nat), .bool false, .bool false, .bool false, .pointer (some ⟨bh, 2, none⟩), .bool true, .pointer (some ⟨bx, 2, none⟩), .bool true, .bool false, .bool false, .slice (some ⟨w9.heap.size, 0, none⟩) 0 0, .int .i64 (m : Nat), .pointer (some ⟨bh, 0, none⟩), .slice a0 m c0, .int .i64 (m : Nat), .bool false, u61, u62, u63, u64, u65, u66, u67, u68, u69, u70, u71, .int .i64 (j : Nat), .slice la LL.length lc, .int .i64 (LL.length : Nat), .bool false, u76, u77, u78, u79, u80, u81, u82, u83, u84, .slice xa ops.length xc, .int .i64 (ops.length : Nat), .bool false, .bool false, .int .i64 1, .bool false, .bool false, undef, undef, .bool false, .bool false, .slice (some ⟨wr.heap.size, 0, none⟩) 0 0, .slice xa ops.length xc, .slice va ops.length vac, .pointer (some ⟨bh, 2, none⟩), .bool true, .slice va ops.length vac, .agg #[.int .i64 8, .int .i64 0, .int .i64 0, .int .i64 0], .slice (some ⟨wA.heap.size, 0, none⟩) 1 1, .slice vb (ops.length + 1) vbc, .slice vb (ops.length + 1) vbc, .agg #[.int .i64 6, .int .i64 0, .int .i64 0, .int .i64 0], .agg #[.int .i64 8, .int .i64 0, .int .i64 0, .int .i64 0], .slice (some ⟨wB.heap.size, 0, none⟩) 2 2, .slice ve (ops.length + 1 + 2) vec, .int .i64 1, .slice ve (ops.length + 1 + 2) vec, .agg #[.slice z0 yn f0, .slice z1 yr f1, .bool false, .slice z3 yq f3], vs 0, vs 1, vs 2, vs 3, vs 4, vs 5, vs 6, vs 7, vs 8, .bool false, vs 10, vs 11], defers := [] } : Act); rw [e8, e7], Below.refl _ _, rfl⟩
                case refine_11 =>
                  intro vs lo hi W hB hv
                  have e9 : vs 9 = .bool false := ((hv ⟨9, .data⟩ (by simp) rfl).1)
                  have e7 : vs 7 = .bool true := ((hv ⟨7, .guard⟩ (by simp) rfl).1)
                  clear hv
                  simp only [e9, e7]
                  go_wp2
                  exact ⟨.bool true, by show _ = ({ tmps := #[.slice C len cap, undef, vs 12, .int .i64 1, .slice xa ops.length xc, .pointer (some ⟨bh, 0, none⟩), .slice la LL.length lc, .pointer (some ⟨bx, 0, none⟩), .slice ia m ic, .int .i64 (m : Nat), .int .i64 (j : Nat), .slice ve (ops.length + 1 + 2) vec, .pointer (some ⟨bz, 0, none⟩), .slice C len cap, .bool false, .agg #[.int .i64 1, .int .i64 0, .int .i64 0, .int .i64 0], .slice (some ⟨w1.heap.size, 0, none⟩) 1 1, .slice mu 1 mv, .int .i64 1, .bool false, .tuple #[.int .i64 1, .slice xa ops.length xc], .slice C len cap, .tuple #[.int .i64 1, .slice xa ops.length xc], .int .i64 1, .slice xa ops.length xc, .int .i64 1, .slice xa ops.length xc, .agg #[.slice a0 m c0, .slice a1 rn c1, .bool true, .slice a3 qn c3], .agg #[.slice a0 m c0, .slice a1 rn c1, .bool true, .slice a3 qn c3], .slice la LL.length lc, .int .i64 1, .slice xa ops.length xc, .agg #[.slice sa m sc, .slice ra rn rc, .bool true, .slice qa qn qc], .pointer (some ⟨bh, 0, none⟩), .slice a0 m c0, .int .i64 (m : Nat), .pointer (some ⟨bx, 0, none⟩), .slice sa m sc, .int .i64 (m : Nat), .bool false, .bool false, .slice la LL.length lc, .int .i64 (LL.length : Nat), .agg #[.slice sa m sc, .slice ra rn rc, .bool true, .slice qa qn qc], .slice za LL.length zc, .int .i64 (LL.length : Nat), .bool false, .bool false, .bool false, .pointer (some ⟨bh, 2, none⟩), .bool true, .pointer (some ⟨bx, 2, none⟩), .bool true, .bool false, .bool false, .slice (some ⟨w9.heap.size, 0, none⟩) 0 0, .int .i64 (m : Nat), .pointer (some ⟨bh, 0, none⟩), .slice a0 m c0, .int .i64 (m : Nat), .bool false, u61, u62, u63, u64, u65, u66, u67, u68, u69, u70, u71, .int .i64 (j : Nat), .slice la LL.length lc, .int .i64 (LL.length : Nat), .bool false, u76, u77, u78, u79, u80, u81, u82, u83, u84, .slice xa ops.length xc, .int .i64 (ops.length : Nat), .bool false, .bool false, .int .i64 1, .bool false, .bool false, undef, undef, .bool false, .bool false, .slice (some ⟨wr.heap.size, 0, none⟩) 0 0, .slice xa ops.length xc, .slice va ops.length vac, .pointer (some ⟨bh, 2, none⟩), .bool true, .slice va ops.length vac, .agg #[.int .i64 8, .int .i64 0, .int .i64 0, .int .i64 0], .slice (some ⟨wA.heap.size, 0, none⟩) 1 1, .slice vb (ops.length + 1) vbc, .slice vb (ops.length + 1) vbc, .agg #[.int .i64 6, .int .i64 0, .int .i64 0, .int .i64 0], .agg #[.int .i64 8, .int .i64 0, .int .i64 0, .int .i64 0], .slice (some ⟨wB.heap.size, 0, none⟩) 2 2, .slice ve (ops.length + 1 + 2) vec, .int .i64 1, .slice ve (ops.length + 1 + 2) vec, .agg #[.slice z0 yn f0, .slice z1 yr f1, .bool false, .slice z3 yq f3], vs 0, vs 1, vs 2, vs 3, vs 4, vs 5, vs 6, vs 7, vs 8, vs 9, .bool true, vs 11], defers := [] } : Act); rw [e9, e7], Below.refl _ _, rfl⟩
                case refine_12 =>
                  intro vs lo hi W hB hv
                  have e7 : vs 7 = .bool true := ((hv ⟨7, .data⟩ (by simp) rfl).1)
                  have e10 : vs 10 = .bool true := ((hv ⟨10, .data⟩ (by simp) rfl).1)
                  clear hv
                  simp only [e7, e10]
                  go_wp2
                  exact ⟨.bool true, by show _ = ({ tmps := #[.slice C len cap, undef, vs 12, .int .i64 1, .slice xa ops.length xc, .pointer (some ⟨bh, 0, none⟩), .slice la LL.length lc, .pointer (some ⟨bx, 0, none⟩), .slice ia m ic, .int .i64 (m : Nat), .int .i64 (j : Nat), .slice ve (ops.length + 1 + 2) vec, .pointer (some ⟨bz, 0, none⟩), .slice C len cap, .bool false, .agg #[.int .i64 1, .int .i64 0, .int .i64 0, .int .i64 0], .slice (some ⟨w1.heap.size, 0, none⟩) 1 1, .slice mu 1 mv, .int .i64 1, .bool false, .tuple #[.int .i64 1, .slice xa ops.length xc], .slice C len cap, .tuple #[.int .i64 1, .slice xa ops.length xc], .int .i64 1, .slice xa ops.length xc, .int .i64 1, .slice xa ops.length xc, .agg #[.slice a0 m c0, .slice a1 rn c1, .bool true, .slice a3 qn c3], .agg #[.slice a0 m c0, .slice a1 rn c1, .bool true, .slice a3 qn c3], .slice la LL.length lc, .int .i64 1, .slice xa ops.length xc, .agg #[.slice sa m sc, .slice ra rn rc, .bool true, .slice qa qn qc], .pointer (some ⟨bh, 0, none⟩), .slice a0 m c0, .int .i64 (m : Nat), .pointer (some ⟨bx, 0, none⟩), .slice sa m sc, .int .i64 (m : Nat), .bool false, .bool false, .slice la LL.length lc, .int .i64 (LL.length : Nat), .agg #[.slice sa m sc, .slice ra rn rc, .bool true, .slice qa qn qc], .slice za LL.length zc, .int .i64 (LL.length : Nat), .bool false, .bool false, .bool false, .pointer (some ⟨bh, 2, none⟩), .bool true, .pointer (some ⟨bx, 2, none⟩), .bool true, .bool false, .bool false, .slice (some ⟨w9.heap.size, 0, none⟩) 0 0, .int .i64 (m : Nat), .pointer (some ⟨bh, 0, none⟩), .slice a0 m c0, .int .i64 (m : Nat), .bool false, u61, u62, u63, u64, u65, u66, u67, u68, u69, u70, u71, .int .i64 (j : Nat), .slice la LL.length lc, .int .i64 (LL.length : Nat), .bool false, u76, u77, u78, u79, u80, u81, u82, u83, u84, .slice xa ops.length xc, .int .i64 (ops.length : Nat), .bool false, .bool false, .int .i64 1, .bool false, .bool false, undef, undef, .bool false, .bool false, .slice (some ⟨wr.heap.size, 0, none⟩) 0 0, .slice xa ops.length xc, .slice va ops.length vac, .pointer (some ⟨bh, 2, none⟩), .bool true, .slice va ops.length vac, .agg #[.int .i64 8, .int .i64 0, .int .i64 0, .int .i64 0], .slice (some ⟨wA.heap.size, 0, none⟩) 1 1, .slice vb (ops.length + 1) vbc, .slice vb (ops.length + 1) vbc, .agg #[.int .i64 6, .int .i64 0, .int .i64 0, .int .i64 0], .agg #[.int .i64 8, .int .i64 0, .int .i64 0, .int .i64 0], .slice (some ⟨wB.heap.size, 0, none⟩) 2 2, .slice ve (ops.length + 1 + 2) vec, .int .i64 1, .slice ve (ops.length + 1 + 2) vec, .agg #[.slice z0 yn f0, .slice z1 yr f1, .bool false, .slice z3 yq f3], vs 0, vs 1, vs 2, vs 3, vs 4, vs 5, vs 6, vs 7, vs 8, vs 9, vs 10, .bool true], defers := [] } : Act); rw [e7, e10], Below.refl _ _, rfl⟩
                case refine_13 =>
                  intro vs lo hi W hB hv
                  have e11 : vs 11 = .bool true := ((hv ⟨11, .data⟩ (by simp) rfl).1)
                  clear hv
                  simp only [e11]
                  go_wp2
                  exact ⟨.bool true, by show _ = ({ tmps := #[.slice C len cap, undef, .bool true, .int .i64 1, .slice xa ops.length xc, .pointer (some ⟨bh, 0, none⟩), .slice la LL.length lc, .pointer (some ⟨bx, 0, none⟩), .slice ia m ic, .int .i64 (m : Nat), .int .i64 (j : Nat), .slice ve (ops.length + 1 + 2) vec, .pointer (some ⟨bz, 0, none⟩), .slice C len cap, .bool false, .agg #[.int .i64 1, .int .i64 0, .int .i64 0, .int .i64 0], .slice (some ⟨w1.heap.size, 0, none⟩) 1 1, .slice mu 1 mv, .int .i64 1, .bool false, .tuple #[.int .i64 1, .slice xa ops.length xc], .slice C len cap, .tuple #[.int .i64 1, .slice xa ops.length xc], .int .i64 1, .slice xa ops.length xc, .int .i64 1, .slice xa ops.length xc, .agg #[.slice a0 m c0, .slice a1 rn c1, .bool true, .slice a3 qn c3], .agg #[.slice a0 m c0, .slice a1 rn c1, .bool true, .slice a3 qn c3], .slice la LL.length lc, .int .i64 1, .slice xa ops.length xc, .agg #[.slice sa m sc, .slice ra rn rc, .bool true, .slice qa qn qc], .pointer (some ⟨bh, 0, none⟩), .slice a0 m c0, .int .i64 (m : Nat), .pointer (some ⟨bx, 0, none⟩), .slice sa m sc, .int .i64 (m : Nat), .bool false, .bool false, .slice la LL.length lc, .int .i64 (LL.length : Nat), .agg #[.slice sa m sc, .slice ra rn rc, .bool true, .slice qa qn qc], .slice za LL.length zc, .int .i64 (LL.length : Nat), .bool false, .bool false, .bool false, .pointer (some ⟨bh, 2, none⟩), .bool true, .pointer (some ⟨bx, 2, none⟩), .bool true, .bool false, .bool false, .slice (some ⟨w9.heap.size, 0, none⟩) 0 0, .int .i64 (m : Nat), .pointer (some ⟨bh, 0, none⟩), .slice a0 m c0, .int .i64 (m : Nat), .bool false, u61, u62, u63, u64, u65, u66, u67, u68, u69, u70, u71, .int .i64 (j : Nat), .slice la LL.length lc, .int .i64 (LL.length : Nat), .bool false, u76, u77, u78, u79, u80, u81, u82, u83, u84, .slice xa ops.length xc, .int .i64 (ops.length : Nat), .bool false, .bool false, .int .i64 1, .bool false, .bool false, undef, undef, .bool false, .bool false, .slice (some ⟨wr.heap.size, 0, none⟩) 0 0, .slice xa ops.length xc, .slice va ops.length vac, .pointer (some ⟨bh, 2, none⟩), .bool true, .slice va ops.length vac, .agg #[.int .i64 8, .int .i64 0, .int .i64 0, .int .i64 0], .slice (some ⟨wA.heap.size, 0, none⟩) 1 1, .slice vb (ops.length + 1) vbc, .slice vb (ops.length + 1) vbc, .agg #[.int .i64 6, .int .i64 0, .int .i64 0, .int .i64 0], .agg #[.int .i64 8, .int .i64 0, .int .i64 0, .int .i64 0], .slice (some ⟨wB.heap.size, 0, none⟩) 2 2, .slice ve (ops.length + 1 + 2) vec, .int .i64 1, .slice ve (ops.length + 1 + 2) vec, .agg #[.slice z0 yn f0, .slice z1 yr f1, .bool false, .slice z3 yq f3], vs 0, vs 1, vs 2, vs 3, vs 4, vs 5, vs 6, vs 7, vs 8, vs 9, vs 10, vs 11], defers := [] } : Act); rw [e11], Below.refl _ _, rfl⟩
                case refine_14 =>
                  intro vs lo hi W hB hv _ _
                  have e12 : vs 12 = .bool true := hv 12 (by simp)
                  clear hv hce spL
                  simp only [e12]
                  (try simp only [Exit.then])
                  go_wp2_with fail
                  go_ret
                  exact ⟨rfl, below_on2 BV.out hB⟩
              | false =>
                obtain ⟨p1, p2, p3, p4⟩ := rowSrc (k := 2) [.int .i64 6, .int .i64 0, .int .i64 0, .int .i64 0, .int .i64 8, .int .i64 0, .int .i64 0, .int .i64 0] wAb.out wAo.out hszA rfl
                have p1H : Hid _ := p1
                have p2H : Hid _ := p2
                have p3H : Hid _ := p3
                have hnx3 : Hid (∀ v' w', w'.ownsRow wr.heap.size 27 4 v' (ops.length + 2) ((opsC ops) ++ [.int .i64 6, .int .i64 0, .int .i64 0, .int .i64 0, .int .i64 8, .int .i64 0, .int .i64 0, .int .i64 0]) → (wA.alloc (.cells (List.toArray [.int .i64 6, .int .i64 0, .int .i64 0, .int .i64 0, .int .i64 8, .int .i64 0, .int .i64 0, .int .i64 0]) 27)).grownBy w' (Value.slice va (ops.length) vac).ownBlock → w'.ownsRow wr.heap.size 27 4 v' (ops.length + R.length) (opsC ops ++ opsC R) ∧ Below wr.heap.size wr w') := fun v' w' g1 g2 => ⟨by rw [hRc.out]; simpa [opsC] using g1, p4 w' g2⟩
                clear p1 p2 p3 p4 wAo wAb hszA
                go_upto_region 27 with (refine wpList_append_src rfl (.tmp 105) (.tmp 108) 28 rfl wr.heap.size 27 i8 (.agg #[.int .i64 0, .int .i64 0, .int .i64 0, .int .i64 0]) 4 32 Try.underlying28 hi8 hz8 hs8 hb8 rfl (by omega) _ (ops.length) (opsC ops) rfl p1H.out _ 2 [.int .i64 6, .int .i64 0, .int .i64 0, .int .i64 0, .int .i64 8, .int .i64 0, .int .i64 0, .int .i64 0] rfl p2H.out (by simp [Value.oneCell']) (by have := hlH.out; unfold maxLen; omega) (by have := hlH.out; omega) p3H.out (fun ve wE o2 g2 _ => ?_); have hA := hnx3.out ve wE o2 g2; have wEo : Hid _ := hA.1; have wEb : Hid _ := hA.2; obtain ⟨ve, vec, rfl⟩ := own_slice o2; clear o2 g2 hA)
                have imC : Hid _ := imA2.out wE wr.heap.size _ wEo.out
                have BE : Hid (Below w1.heap.size w1 wE) := below_on2 B1r.out wEb.out
                clear p1H p2H p3H hnx3 wEo wEb imA2 hRc
                go_wp2_with fail
                refine (show Calls _ _ _ _ _ from imC.out).mono ?_
                rintro e w5 ⟨oz, rz, qz, rfl, TI2, hb5⟩
                obtain ⟨z0, f0, z1, f1, z3, f3, rfl, rfl, rfl, hobz, hroz⟩ := TI2
                go_upto_region 28 with fail
                have hbV : Below w5.heap.size w5 (w5.alloc (.cells #[.slice z0 y.os.length f0, .slice z1 y.rs.length f1, .bool false, .slice z3 y.qs.length f3] 34)) := below_1 _ _
                have hzV : (w5.alloc (.cells #[.slice z0 y.os.length f0, .slice z1 y.rs.length f1, .bool false, .slice z3 y.qs.length f3] 34)).heap[w5.heap.size]? = some (.cells #[.slice z0 y.os.length f0, .slice z1 y.rs.length f1, .bool false, .slice z3 y.qs.length f3] 34 (0, 0)) := heap_alloc_new w5 _
                have hsV : w5.heap.size < (w5.alloc (.cells #[.slice z0 y.os.length f0, .slice z1 y.rs.length f1, .bool false, .slice z3 y.qs.length f3] 34)).heap.size := by simp
                generalize w5.alloc (.cells #[.slice z0 y.os.length f0, .slice z1 y.rs.length f1, .bool false, .slice z3 y.qs.length f3] 34) = V at *
                have hce : Hid (∀ W, Below V.heap.size V W → W.cell? ⟨w5.heap.size, 0, none⟩ = some (.slice z0 y.os.length f0) ∧ W.cell? ⟨w5.heap.size, 1, none⟩ = some (.slice z1 y.rs.length f1) ∧ W.cell? ⟨w5.heap.size, 2, none⟩ = some (.bool false) ∧ W.cell? ⟨w5.heap.size, 3, none⟩ = some (.slice z3 y.qs.length f3)) := fun W hW => by
                  have h := (hW.block _ hsV).trans hzV
                  exact ⟨rangeAt_heap h 0 _ rfl, rangeAt_heap h 1 _ rfl, rangeAt_heap h 2 _ rfl, rangeAt_heap h 3 _ rfl⟩
                have spL : Hid (∀ W, Below V.heap.size V W → Calls Try.prog 10 #[.agg #[.slice z0 y.os.length f0, .slice z1 y.rs.length f1, .bool false, .slice z3 y.qs.length f3]] W fun e w' => (∃ a c, e = .returned (.slice a y.os.length c)) ∧ Below W.heap.size W w') := fun W hW => by
                  rw [← hyc.out]
                  exact reached_len (fun Z hZ => (hyf.out Z hZ).1) hys.out.2 hys.out.1 hobz hroz W (below_on2 hbV hW)
                have BV : Hid (Below w1.heap.size w1 V) := below_on2 BE.out (below_on2 hb5 hbV)
                clear hbV hzV hsV hobz hroz hb5 BE imC hyf hyc hys B1r B3r hbhr hi8 hz8 hs8 hb8 O3H X3H hi9 hz9 hs9 hb9 hlH hLl hn497 hge hge2
                generalize y.os.length = yn at *
                generalize y.rs.length = yr at *
                generalize y.qs.length = yq at *
                generalize w5.heap.size = bz at *
                refine wp_region_own (by kernel_rfl) (fun vs => { tmps := #[.slice C len cap, undef, vs 12, .int .i64 1, .slice xa ops.length xc, .pointer (some ⟨bh, 0, none⟩), .slice la LL.length lc, .pointer (some ⟨bx, 0, none⟩), .slice ia m ic, .int .i64 (m : Nat), .int .i64 (j : Nat), .slice ve (ops.length + 2) vec, .pointer (some ⟨bz, 0, none⟩), .slice C len cap, .bool false, .agg #[.int .i64 1, .int .i64 0, .int .i64 0, .int .i64 0], .slice (some ⟨w1.heap.size, 0, none⟩) 1 1, .slice mu 1 mv, .int .i64 1, .bool false, .tuple #[.int .i64 1, .slice xa ops.length xc], .slice C len cap, .tuple #[.int .i64 1, .slice xa ops.length xc], .int .i64 1, .slice xa ops.length xc, .int .i64 1, .slice xa ops.length xc, .agg #[.slice a0 m c0, .slice a1 rn c1, .bool false, .slice a3 qn c3], .agg #[.slice a0 m c0, .slice a1 rn c1, .bool false, .slice a3 qn c3], .slice la LL.length lc, .int .i64 1, .slice xa ops.length xc, .agg #[.slice sa m sc, .slice ra rn rc, .bool false, .slice qa qn qc], .pointer (some ⟨bh, 0, none⟩), .slice a0 m c0, .int .i64 (m : Nat), .pointer (some ⟨bx, 0, none⟩), .slice sa m sc, .int .i64 (m : Nat), .bool false, .bool false, .slice la LL.length lc, .int .i64 (LL.length : Nat), .agg #[.slice sa m sc, .slice ra rn rc, .bool false, .slice qa qn qc], .slice za LL.length zc, .int .i64 (LL.length : Nat), .bool false, .bool false, .bool false, .pointer (some ⟨bh, 2, none⟩), .bool false, .pointer (some ⟨bx, 2, none⟩), .bool false, .bool false, .bool false, .slice (some ⟨w9.heap.size, 0, none⟩) 0 0, .int .i64 (m : Nat), .pointer (some ⟨bh, 0, none⟩), .slice a0 m c0, .int .i64 (m : Nat), .bool false, u61, u62, u63, u64, u65, u66, u67, u68, u69, u70, u71, .int .i64 (j : Nat), .slice la LL.length lc, .int .i64 (LL.length : Nat), .bool false, u76, u77, u78, u79, u80, u81, u82, u83, u84, .slice xa ops.length xc, .int .i64 (ops.length : Nat), .bool false, .bool false, .int .i64 1, .bool false, .bool false, undef, undef, .bool false, .bool false, .slice (some ⟨wr.heap.size, 0, none⟩) 0 0, .slice xa ops.length xc, .slice va ops.length vac, .pointer (some ⟨bh, 2, none⟩), .bool false, undef, undef, undef, undef, .slice va ops.length vac, .agg #[.int .i64 6, .int .i64 0, .int .i64 0, .int .i64 0], .agg #[.int .i64 8, .int .i64 0, .int .i64 0, .int .i64 0], .slice (some ⟨wA.heap.size, 0, none⟩) 2 2, .slice ve (ops.length + 2) vec, .int .i64 1, .slice ve (ops.length + 2) vec, .agg #[.slice z0 yn f0, .slice z1 yr f1, .bool false, .slice z3 yq f3], vs 0, vs 1, vs 2, vs 3, vs 4, vs 5, vs 6, vs 7, vs 8, vs 9, vs 10, vs 11], defers := [] }) (lvc 4 yn [.pointer (some ⟨bz, 0, none⟩), .slice z0 yn f0, .int .i64 yn, .agg #[.slice z0 yn f0, .slice z1 yr f1, .bool false, .slice z3 yq f3], undef, .int .i64 yn, .bool true, .bool true, .pointer (some ⟨bz, 2, none⟩), .bool false, .bool true, .bool true, .bool true]) (fun i => if i = 12 then u2 else undef) rfl (fun _ _ _ _ _ _ _ _ h => h) (allAt_all ⟨?_, ?_, ?_, ?_, ?_, ?_, ?_, ?_, ?_, ?_, ?_, ?_, ?_, trivial⟩) ?_ (regForward_done (by kernel_rfl))
                case refine_1 =>
                  intro vs lo hi W hB hv
                  clear hv
                  go_wp2
                  exact ⟨.pointer (some ⟨bz, 0, none⟩), by rfl, Below.refl _ _, rfl⟩
                case refine_2 =>
                  intro vs lo hi W hB hv
                  have e0 : vs 0 = .pointer (some ⟨bz, 0, none⟩) := ((hv ⟨0, .data⟩ (by simp) rfl).1)
                  obtain ⟨g0, g1, g2, g3⟩ := hce.out W hB
                  clear hv
                  simp only [e0]
                  go_wp2
                  exact ⟨.slice z0 yn f0, by show _ = ({ tmps := #[.slice C len cap, undef, vs 12, .int .i64 1, .slice xa ops.length xc, .pointer (some ⟨bh, 0, none⟩), .slice la LL.length lc, .pointer (some ⟨bx, 0, none⟩), .slice ia m ic, .int .i64 (m : Nat), .int .i64 (j : Nat), .slice ve (ops.length + 2) vec, .pointer (some ⟨bz, 0, none⟩), .slice C len cap, .bool false, .agg #[.int .i64 1, .int .i64 0, .int .i64 0, .int .i64 0], .slice (some ⟨w1.heap.size, 0, none⟩) 1 1, .slice mu 1 mv, .int .i64 1, .bool false, .tuple #[.int .i64 1, .slice xa ops.length xc], .slice C len cap, .tuple #[.int .i64 1, .slice xa ops.length xc], .int .i64 1, .slice xa ops.length xc, .int .i64 1, .slice xa ops.length xc, .agg #[.slice a0 m c0, .slice a1 rn c1, .bool false, .slice a3 qn c3], .agg #[.slice a0 m c0, .slice a1 rn c1, .bool false, .slice a3 qn c3], .slice la LL.length lc, .int .i64 1, .slice xa ops.length xc, .agg #[.slice sa m sc, .slice ra rn rc, .bool false, .slice qa qn qc], .pointer (some ⟨bh, 0, none⟩), .slice a0 m c0, .int .i64 (m : Nat), .pointer (some ⟨bx, 0, none⟩), .slice sa m sc, .int .i64 (m : Nat), .bool false, .bool false, .slice la LL.length lc, .int .i64 (LL.length : Nat), .agg #[.slice sa m sc, .slice ra rn rc, .bool false, .slice qa qn qc], .slice za LL.length zc, .int .i64 (LL.length : Nat), .bool false, .bool false, .bool false, .pointer (some ⟨bh, 2, none⟩), .bool false, .pointer (some ⟨bx, 2, none⟩), .bool false, .bool false, .bool false, .slice (some ⟨w9.heap.size, 0, none⟩) 0 0, .int .i64 (m : Nat), .pointer (some ⟨bh, 0, none⟩), .slice a0 m c0, .int .i64 (m : Nat), .bool false, u61, u62, u63, u64, u65, u66, u67, u68, u69, u70, u71, .int .i64 (j : Nat), .slice la LL.length lc, .int .i64 (LL.length : Nat), .bool false, u76, u77, u78, u79, u80, u81, u82, u83, u84, .slice xa ops.length xc, .int .i64 (ops.length : Nat), .bool false, .bool false, .int .i64 1, .bool false, .bool false, undef, undef, .bool false, .bool false, .slice (some ⟨wr.heap.size, 0, none⟩) 0 0, .slice xa ops.length xc, .slice va ops.length vac, .pointer (some ⟨bh, 2, none⟩), .bool false, undef, undef, undef, undef, .slice va ops.length vac, .agg #[.int .i64 6, .int .i64 0, .int .i64 0, .int .i64 0], .agg #[.int .i64 8, .int .i64 0, .int .i64 0, .int .i64 0], .slice (some ⟨wA.heap.size, 0, none⟩) 2 2, .slice ve (ops.length + 2) vec, .int .i64 1, .slice ve (ops.length + 2) vec, .agg #[.slice z0 yn f0, .slice z1 yr f1, .bool false, .slice z3 yq f3], vs 0, .slice z0 yn f0, vs 2, vs 3, vs 4, vs 5, vs 6, vs 7, vs 8, vs 9, vs 10, vs 11], defers := [] } : Act); rw [e0], Below.refl _ _, rfl⟩
                case refine_3 =>
                  intro vs lo hi W hB hv
                  have e1 : vs 1 = .slice z0 yn f0 := ((hv ⟨1, .data⟩ (by simp) rfl).1)
                  clear hv
                  simp only [e1]
                  go_wp2
                  exact ⟨.int .i64 yn, by first | (rw [← e1]; rfl) | (simp [upd, e1]), Below.refl _ _, rfl⟩
                case refine_4 =>
                  intro vs lo hi W hB hv
                  obtain ⟨g0, g1, g2, g3⟩ := hce.out W hB
                  clear hv
                  go_wp2
                  exact ⟨.agg #[.slice z0 yn f0, .slice z1 yr f1, .bool false, .slice z3 yq f3], by rfl, Below.refl _ _, rfl⟩
                case refine_5 =>
                  intro vs lo hi W hB hv
                  have e3 : vs 3 = .agg #[.slice z0 yn f0, .slice z1 yr f1, .bool false, .slice z3 yq f3] := ((hv ⟨3, .data⟩ (by simp) rfl).1)
                  have hq : Hid _ := spL.out W hB
                  clear hv
                  simp only [e3]
                  go_wp2_with (go_at_call 10; refine (show Calls _ _ _ _ _ from hq.out).mono ?_; rintro e W2 ⟨⟨ua, uc, rfl⟩, hB2⟩)
                  exact ⟨.slice ua yn uc, by show _ = ({ tmps := #[.slice C len cap, undef, vs 12, .int .i64 1, .slice xa ops.length xc, .pointer (some ⟨bh, 0, none⟩), .slice la LL.length lc, .pointer (some ⟨bx, 0, none⟩), .slice ia m ic, .int .i64 (m : Nat), .int .i64 (j : Nat), .slice ve (ops.length + 2) vec, .pointer (some ⟨bz, 0, none⟩), .slice C len cap, .bool false, .agg #[.int .i64 1, .int .i64 0, .int .i64 0, .int .i64 0], .slice (some ⟨w1.heap.size, 0, none⟩) 1 1, .slice mu 1 mv, .int .i64 1, .bool false, .tuple #[.int .i64 1, .slice xa ops.length xc], .slice C len cap, .tuple #[.int .i64 1, .slice xa ops.length xc], .int .i64 1, .slice xa ops.length xc, .int .i64 1, .slice xa ops.length xc, .agg #[.slice a0 m c0, .slice a1 rn c1, .bool false, .slice a3 qn c3], .agg #[.slice a0 m c0, .slice a1 rn c1, .bool false, .slice a3 qn c3], .slice la LL.length lc, .int .i64 1, .slice xa ops.length xc, .agg #[.slice sa m sc, .slice ra rn rc, .bool false, .slice qa qn qc], .pointer (some ⟨bh, 0, none⟩), .slice a0 m c0, .int .i64 (m : Nat), .pointer (some ⟨bx, 0, none⟩), .slice sa m sc, .int .i64 (m : Nat), .bool false, .bool false, .slice la LL.length lc, .int .i64 (LL.length : Nat), .agg #[.slice sa m sc, .slice ra rn rc, .bool false, .slice qa qn qc], .slice za LL.length zc, .int .i64 (LL.length : Nat), .bool false, .bool false, .bool false, .pointer (some ⟨bh, 2, none⟩), .bool false, .pointer (some ⟨bx, 2, none⟩), .bool false, .bool false, .bool false, .slice (some ⟨w9.heap.size, 0, none⟩) 0 0, .int .i64 (m : Nat), .pointer (some ⟨bh, 0, none⟩), .slice a0 m c0, .int .i64 (m : Nat), .bool false, u61, u62, u63, u64, u65, u66, u67, u68, u69, u70, u71, .int .i64 (j : Nat), .slice la LL.length lc, .int .i64 (LL.length : Nat), .bool false, u76, u77, u78, u79, u80, u81, u82, u83, u84, .slice xa ops.length xc, .int .i64 (ops.length : Nat), .bool false, .bool false, .int .i64 1, .bool false, .bool false, undef, undef, .bool false, .bool false, .slice (some ⟨wr.heap.size, 0, none⟩) 0 0, .slice xa ops.length xc, .slice va ops.length vac, .pointer (some ⟨bh, 2, none⟩), .bool false, undef, undef, undef, undef, .slice va ops.length vac, .agg #[.int .i64 6, .int .i64 0, .int .i64 0, .int .i64 0], .agg #[.int .i64 8, .int .i64 0, .int .i64 0, .int .i64 0], .slice (some ⟨wA.heap.size, 0, none⟩) 2 2, .slice ve (ops.length + 2) vec, .int .i64 1, .slice ve (ops.length + 2) vec, .agg #[.slice z0 yn f0, .slice z1 yr f1, .bool false, .slice z3 yq f3], vs 0, vs 1, vs 2, vs 3, .slice ua yn uc, vs 5, vs 6, vs 7, vs 8, vs 9, vs 10, vs 11], defers := [] } : Act); rw [e3], hB2, ⟨_, _, rfl⟩⟩
                case refine_6 =>
                  intro vs lo hi W hB hv
                  obtain ⟨ua, uc, e4⟩ := (show ∃ a c, vs 4 = Value.slice a yn c from (hv ⟨4, .data⟩ (by simp) rfl).1)
                  clear hv
                  simp only [e4]
                  go_wp2
                  exact ⟨.int .i64 yn, by first | (rw [← e4]; rfl) | (simp [upd, e4]), Below.refl _ _, rfl⟩
                case refine_7 =>
                  intro vs lo hi W hB hv
                  have e2 : vs 2 = .int .i64 yn := ((hv ⟨2, .data⟩ (by simp) rfl).1)
                  have e5 : vs 5 = .int .i64 yn := ((hv ⟨5, .data⟩ (by simp) rfl).1)
                  clear hv
                  simp only [e2, e5]
                  go_wp2
                  exact ⟨.bool true, by show _ = ({ tmps := #[.slice C len cap, undef, vs 12, .int .i64 1, .slice xa ops.length xc, .pointer (some ⟨bh, 0, none⟩), .slice la LL.length lc, .pointer (some ⟨bx, 0, none⟩), .slice ia m ic, .int .i64 (m : Nat), .int .i64 (j : Nat), .slice ve (ops.length + 2) vec, .pointer (some ⟨bz, 0, none⟩), .slice C len cap, .bool false, .agg #[.int .i64 1, .int .i64 0, .int .i64 0, .int .i64 0], .slice (some ⟨w1.heap.size, 0, none⟩) 1 1, .slice mu 1 mv, .int .i64 1, .bool false, .tuple #[.int .i64 1, .slice xa ops.length xc], .slice C len cap, .tuple #[.int .i64 1, .slice xa ops.length xc], .int .i64 1, .slice xa ops.length xc, .int .i64 1, .slice xa ops.length xc, .agg #[.slice a0 m c0, .slice a1 rn c1, .bool false, .slice a3 qn c3], .agg #[.slice a0 m c0, .slice a1 rn c1, .bool false, .slice a3 qn c3], .slice la LL.length lc, .int .i64 1, .slice xa ops.length xc, .agg #[.slice sa m sc, .slice ra rn rc, .bool false, .slice qa qn qc], .pointer (some ⟨bh, 0, none⟩), .slice a0 m c0, .int .i64 (m : Nat), .pointer (some ⟨bx, 0, none⟩), .slice sa m sc, .int .i64 (m : Nat), .bool false, .bool false, .slice la LL.length lc, .int .i64 (LL.length : Nat), .agg #[.slice sa m sc, .slice ra rn rc, .bool false, .slice qa qn qc], .slice za LL.length zc, .int .i64 (LL.length : Nat), .bool false, .bool false, .bool false, .pointer (some ⟨bh, 2, none⟩), .bool false, .pointer (some ⟨bx, 2, none⟩), .bool false, .bool false, .bool false, .slice (some ⟨w9.heap.size, 0, none⟩) 0 0, .int .i64 (m : Nat), .pointer (some ⟨bh, 0, none⟩), .slice a0 m c0, .int .i64 (m : Nat), .bool false, u61, u62, u63, u64, u65, u66, u67, u68, u69, u70, u71, .int .i64 (j : Nat), .slice la LL.length lc, .int .i64 (LL.length : Nat), .bool false, u76, u77, u78, u79, u80, u81, u82, u83, u84, .slice xa ops.length xc, .int .i64 (ops.length : Nat), .bool false, .bool false, .int .i64 1, .bool false, .bool false, undef, undef, .bool false, .bool false, .slice (some ⟨wr.heap.size, 0, none⟩) 0 0, .slice xa ops.length xc, .slice va ops.length vac, .pointer (some ⟨bh, 2, none⟩), .bool false, undef, undef, undef, undef, .slice va ops.length vac, .agg #[.int .i64 6, .int .i64 0, .int .i64 0, .int .i64 0], .agg #[.int .i64 8, .int .i64 0, .int .i64 0, .int .i64 0], .slice (some ⟨wA.heap.size, 0, none⟩) 2 2, .slice ve (ops.length + 2) vec, .int .i64 1, .slice ve (ops.length + 2) vec, .agg #[.slice z0 yn f0, .slice z1 yr f1, .bool false, .slice z3 yq f3], vs 0, vs 1, vs 2, vs 3, vs 4, vs 5, .bool true, vs 7, vs 8, vs 9, vs 10, vs 11], defers := [] } : Act); rw [e2, e5], Below.refl _ _, rfl⟩
                case refine_8 =>
                  intro vs lo hi W hB hv
                  have e6 : vs 6 = .bool true := ((hv ⟨6, .data⟩ (by simp) rfl).1)
                  clear hv
                  simp only [e6]
                  go_wp2
                  exact ⟨.bool true, by show _ = ({ tmps := #[.slice C len cap, undef, vs 12, .int .i64 1, .slice xa ops.length xc, .pointer (some ⟨bh, 0, none⟩), .slice la LL.length lc, .pointer (some ⟨bx, 0, none⟩), .slice ia m ic, .int .i64 (m : Nat), .int .i64 (j : Nat), .slice ve (ops.length + 2) vec, .pointer (some ⟨bz, 0, none⟩), .slice C len cap, .bool false, .agg #[.int .i64 1, .int .i64 0, .int .i64 0, .int .i64 0], .slice (some ⟨w1.heap.size, 0, none⟩) 1 1, .slice mu 1 mv, .int .i64 1, .bool false, .tuple #[.int .i64 1, .slice xa ops.length xc], .slice C len cap, .tuple #[.int .i64 1, .slice xa ops.length xc], .int .i64 1, .slice xa ops.length xc, .int .i64 1, .slice xa ops.length xc, .agg #[.slice a0 m c0, .slice a1 rn c1, .bool false, .slice a3 qn c3], .agg #[.slice a0 m c0, .slice a1 rn c1, .bool false, .slice a3 qn c3], .slice la LL.length lc, .int .i64 1, .slice xa ops.length xc, .agg #[.slice sa m sc, .slice ra rn rc, .bool false, .slice qa qn qc], .pointer (some ⟨bh, 0, none⟩), .slice a0 m c0, .int .i64 (m : Nat), .pointer (some ⟨bx, 0, none⟩), .slice sa m sc, .int .i64 (m : Nat), .bool false, .bool false, .slice la LL.length lc, .int .i64 (LL.length : Nat), .agg #[.slice sa m sc, .slice ra rn rc, .bool false, .slice qa qn qc], .slice za LL.length zc, .int .i64 (LL.length : Nat), .bool false, .bool false, .bool false, .pointer (some ⟨bh, 2, none⟩), .bool false, .pointer (some ⟨bx, 2, none⟩), .bool false, .bool false, .bool false, .slice (some ⟨w9.heap.size, 0, none⟩) 0 0, .int .i64 (m : Nat), .pointer (some ⟨bh, 0, none⟩), .slice a0 m c0, .int .i64 (m : Nat), .bool false, u61, u62, u63, u64, u65, u66, u67, u68, u69, u70, u71, .int .i64 (j : Nat), .slice la LL.length lc, .int .i64 (LL.length : Nat), .bool false, u76, u77, u78, u79, u80, u81, u82, u83, u84, .slice xa ops.length xc, .int .i64 (ops.length : Nat), .bool false, .bool false, .int .i64 1, .bool false, .bool false, undef, undef, .bool false, .bool false, .slice (some ⟨wr.heap.size, 0, none⟩) 0 0, .slice xa ops.length xc, .slice va ops.length vac, .pointer (some ⟨bh, 2, none⟩), .bool false, undef, undef, undef, undef, .slice va ops.length vac, .agg #[.int .i64 6, .int .i64 0, .int .i64 0, .int .i64 0], .agg #[.int .i64 8, .int .i64 0, .int .i64 0, .int .i64 0], .slice (some ⟨wA.heap.size, 0, none⟩) 2 2, .slice ve (ops.length + 2) vec, .int .i64 1, .slice ve (ops.length + 2) vec, .agg #[.slice z0 yn f0, .slice z1 yr f1, .bool false, .slice z3 yq f3], vs 0, vs 1, vs 2, vs 3, vs 4, vs 5, vs 6, .bool true, vs 8, vs 9, vs 10, vs 11], defers := [] } : Act); rw [e6], Below.refl _ _, rfl⟩
                case refine_9 =>
                  intro vs lo hi W hB hv
                  have e7 : vs 7 = .bool true := ((hv ⟨7, .guard⟩ (by simp) rfl).1)
                  clear hv
                  simp only [e7]
                  go_wp2
                  exact ⟨.pointer (some ⟨bz, 2, none⟩), by first | (rw [← e7]; rfl) | (simp [upd, e7]), Below.refl _ _, rfl⟩
                case refine_10 =>
                  intro vs lo hi W hB hv
                  have e8 : vs 8 = .pointer (some ⟨bz, 2, none⟩) := ((hv ⟨8, .data⟩ (by simp) rfl).1)
                  have e7 : vs 7 = .bool true := ((hv ⟨7, .guard⟩ (by simp) rfl).1)
                  obtain ⟨g0, g1, g2, g3⟩ := hce.out W hB
                  clear hv
                  simp only [e8, e7]
                  go_wp2
                  exact ⟨.bool false, by first | (rw [← e8, ← e7]; rfl) | (simp [upd, e8, e7]), Below.refl _ _, rfl⟩
                case refine_11 =>
                  intro vs lo hi W hB hv
                  have e9 : vs 9 = .bool false := ((hv ⟨9, .data⟩ (by simp) rfl).1)
                  have e7 : vs 7 = .bool true := ((hv ⟨7, .guard⟩ (by simp) rfl).1)
                  clear hv
                  simp only [e9, e7]
                  go_wp2
                  exact ⟨.bool true, by show _ = ({ tmps := #[.slice C len cap, undef, vs 12, .int .i64 1, .slice xa ops.length xc, .pointer (some ⟨bh, 0, none⟩), .slice la LL.length lc, .pointer (some ⟨bx, 0, none⟩), .slice ia m ic, .int .i64 (m : Nat), .int .i64 (j : Nat), .slice ve (ops.length + 2) vec, .pointer (some ⟨bz, 0, none⟩), .slice C len cap, .bool false, .agg #[.int .i64 1, .int .i64 0, .int .i64 0, .int .i64 0], .slice (some ⟨w1.heap.size, 0, none⟩) 1 1, .slice mu 1 mv, .int .i64 1, .bool false, .tuple #[.int .i64 1, .slice xa ops.length xc], .slice C len cap, .tuple #[.int .i64 1, .slice xa ops.length xc], .int .i64 1, .slice xa ops.length xc, .int .i64 1, .slice xa ops.length xc, .agg #[.slice a0 m c0, .slice a1 rn c1, .bool false, .slice a3 qn c3], .agg #[.slice a0 m c0, .slice a1 rn c1, .bool false, .slice a3 qn c3], .slice la LL.length lc, .int .i64 1, .slice xa ops.length xc, .agg #[.slice sa m sc, .slice ra rn rc, .bool false, .slice qa qn qc], .pointer (some ⟨bh, 0, none⟩), .slice a0 m c0, .int .i64 (m : Nat), .pointer (some ⟨bx, 0, none⟩), .slice sa m sc, .int .i64 (m : Nat), .bool false, .bool false, .slice la LL.length lc, .int .i64 (LL.length : Nat), .agg #[.slice sa m sc, .slice ra rn rc, .bool false, .slice qa qn qc], .slice za LL.length zc, .int .i64 (LL.length : Nat), .bool false, .bool false, .bool false, .pointer (some ⟨bh, 2, none⟩), .bool false, .pointer (some ⟨bx, 2, none⟩), .bool false, .bool false, .bool false, .slice (some ⟨w9.heap.size, 0, none⟩) 0 0, .int .i64 (m : Nat), .pointer (some ⟨bh, 0, none⟩), .slice a0 m c0, .int .i64 (m : Nat), .bool false, u61, u62, u63, u64, u65, u66, u67, u68, u69, u70, u71, .int .i64 (j : Nat), .slice la LL.length lc, .int .i64 (LL.length : Nat), .bool false, u76, u77, u78, u79, u80, u81, u82, u83, u84, .slice xa ops.length xc, .int .i64 (ops.length : Nat), .bool false, .bool false, .int .i64 1, .bool false, .bool false, undef, undef, .bool false, .bool false, .slice (some ⟨wr.heap.size, 0, none⟩) 0 0, .slice xa ops.length xc, .slice va ops.length vac, .pointer (some ⟨bh, 2, none⟩), .bool false, undef, undef, undef, undef, .slice va ops.length vac, .agg #[.int .i64 6, .int .i64 0, .int .i64 0, .int .i64 0], .agg #[.int .i64 8, .int .i64 0, .int .i64 0, .int .i64 0], .slice (some ⟨wA.heap.size, 0, none⟩) 2 2, .slice ve (ops.length + 2) vec, .int .i64 1, .slice ve (ops.length + 2) vec, .agg #[.slice z0 yn f0, .slice z1 yr f1, .bool false, .slice z3 yq f3], vs 0, vs 1, vs 2, vs 3, vs 4, vs 5, vs 6, vs 7, vs 8, vs 9, .bool true, vs 11], defers := [] } : Act); rw [e9, e7], Below.refl _ _, rfl⟩
                case refine_12 =>
                  intro vs lo hi W hB hv
                  have e7 : vs 7 = .bool true := ((hv ⟨7, .data⟩ (by simp) rfl).1)
                  have e10 : vs 10 = .bool true := ((hv ⟨10, .data⟩ (by simp) rfl).1)
                  clear hv
                  simp only [e7, e10]
                  go_wp2
                  exact ⟨.bool true, by show _ = ({ tmps := #[.slice C len cap, undef, vs 12, .int .i64 1, .slice xa ops.length xc, .pointer (some ⟨bh, 0, none⟩), .slice la LL.length lc, .pointer (some ⟨bx, 0, none⟩), .slice ia m ic, .int .i64 (m : Nat), .int .i64 (j : Nat), .slice ve (ops.length + 2) vec, .pointer (some ⟨bz, 0, none⟩), .slice C len cap, .bool false, .agg #[.int .i64 1, .int .i64 0, .int .i64 0, .int .i64 0], .slice (some ⟨w1.heap.size, 0, none⟩) 1 1, .slice mu 1 mv, .int .i64 1, .bool false, .tuple #[.int .i64 1, .slice xa ops.length xc], .slice C len cap, .tuple #[.int .i64 1, .slice xa ops.length xc], .int .i64 1, .slice xa ops.length xc, .int .i64 1, .slice xa ops.length xc, .agg #[.slice a0 m c0, .slice a1 rn c1, .bool false, .slice a3 qn c3], .agg #[.slice a0 m c0, .slice a1 rn c1, .bool false, .slice a3 qn c3], .slice la LL.length lc, .int .i64 1, .slice xa ops.length xc, .agg #[.slice sa m sc, .slice ra rn rc, .bool false, .slice qa qn qc], .pointer (some ⟨bh, 0, none⟩), .slice a0 m c0, .int .i64 (m : Nat), .pointer (some ⟨bx, 0, none⟩), .slice sa m sc, .int .i64 (m : Nat), .bool false, .bool false, .slice la LL.length lc, .int .i64 (LL.length : Nat), .agg #[.slice sa m sc, .slice ra rn rc, .bool false, .slice qa qn qc], .slice za LL.length zc, .int .i64 (LL.length : Nat), .bool false, .bool false, .bool false, .pointer (some ⟨bh, 2, none⟩), .bool false, .pointer (some ⟨bx, 2, none⟩), .bool false, .bool false, .bool false, .slice (some ⟨w9.heap.size, 0, none⟩) 0 0, .int .i64 (m : Nat), .pointer (some ⟨bh, 0, none⟩), .slice a0 m c0, .int .i64 (m : Nat), .bool false, u61, u62, u63, u64, u65, u66, u67, u68, u69, u70, u71, .int .i64 (j : Nat), .slice la LL.length lc, .int .i64 (LL.length : Nat), .bool false, u76, u77, u78, u79, u80, u81, u82, u83, u84, .slice xa ops.length xc, .int .i64 (ops.length : Nat), .bool false, .bool false, .int .i64 1, .bool false, .bool false, undef, undef, .bool false, .bool false, .slice (some ⟨wr.heap.size, 0, none⟩) 0 0, .slice xa ops.length xc, .slice va ops.length vac, .pointer (some ⟨bh, 2, none⟩), .bool false, undef, undef, undef, undef, .slice va ops.length vac, .agg #[.int .i64 6, .int .i64 0, .int .i64 0, .int .i64 0], .agg #[.int .i64 8, .int .i64 0, .int .i64 0, .int .i64 0], .slice (some ⟨wA.heap.size, 0, none⟩) 2 2, .slice ve (ops.length + 2) vec, .int .i64 1, .slice ve (ops.length + 2) vec, .agg #[.slice z0 yn f0, .slice z1 yr f1, .bool false, .slice z3 yq f3], vs 0, vs 1, vs 2, vs 3, vs 4, vs 5, vs 6, vs 7, vs 8, vs 9, vs 10, .bool true], defers := [] } : Act); rw [e7, e10], Below.refl _ _, rfl⟩
                case refine_13 =>
                  intro vs lo hi W hB hv
                  have e11 : vs 11 = .bool true := ((hv ⟨11, .data⟩ (by simp) rfl).1)
                  clear hv
                  simp only [e11]
                  go_wp2
                  exact ⟨.bool true, by show _ = ({ tmps := #[.slice C len cap, undef, .bool true, .int .i64 1, .slice xa ops.length xc, .pointer (some ⟨bh, 0, none⟩), .slice la LL.length lc, .pointer (some ⟨bx, 0, none⟩), .slice ia m ic, .int .i64 (m : Nat), .int .i64 (j : Nat), .slice ve (ops.length + 2) vec, .pointer (some ⟨bz, 0, none⟩), .slice C len cap, .bool false, .agg #[.int .i64 1, .int .i64 0, .int .i64 0, .int .i64 0], .slice (some ⟨w1.heap.size, 0, none⟩) 1 1, .slice mu 1 mv, .int .i64 1, .bool false, .tuple #[.int .i64 1, .slice xa ops.length xc], .slice C len cap, .tuple #[.int .i64 1, .slice xa ops.length xc], .int .i64 1, .slice xa ops.length xc, .int .i64 1, .slice xa ops.length xc, .agg #[.slice a0 m c0, .slice a1 rn c1, .bool false, .slice a3 qn c3], .agg #[.slice a0 m c0, .slice a1 rn c1, .bool false, .slice a3 qn c3], .slice la LL.length lc, .int .i64 1, .slice xa ops.length xc, .agg #[.slice sa m sc, .slice ra rn rc, .bool false, .slice qa qn qc], .pointer (some ⟨bh, 0, none⟩), .slice a0 m c0, .int .i64 (m : Nat), .pointer (some ⟨bx, 0, none⟩), .slice sa m sc, .int .i64 (m : Nat), .bool false, .bool false, .slice la LL.length lc, .int .i64 (LL.length : Nat), .agg #[.slice sa m sc, .slice ra rn rc, .bool false, .slice qa qn qc], .slice za LL.length zc, .int .i64 (LL.length : Nat), .bool false, .bool false, .bool false, .pointer (some ⟨bh, 2, none⟩), .bool false, .pointer (some ⟨bx, 2, none⟩), .bool false, .bool false, .bool false, .slice (some ⟨w9.heap.size, 0, none⟩) 0 0, .int .i64 (m : Nat), .pointer (some ⟨bh, 0, none⟩), .slice a0 m c0, .int .i64 (m : Nat), .bool false, u61, u62, u63, u64, u65, u66, u67, u68, u69, u70, u71, .int .i64 (j : Nat), .slice la LL.length lc, .int .i64 (LL.length : Nat), .bool false, u76, u77, u78, u79, u80, u81, u82, u83, u84, .slice xa ops.length xc, .int .i64 (ops.length : Nat), .bool false, .bool false, .int .i64 1, .bool false, .bool false, undef, undef, .bool false, .bool false, .slice (some ⟨wr.heap.size, 0, none⟩) 0 0, .slice xa ops.length xc, .slice va ops.length vac, .pointer (some ⟨bh, 2, none⟩), .bool false, undef, undef, undef, undef, .slice va ops.length vac, .agg #[.int .i64 6, .int .i64 0, .int .i64 0, .int .i64 0], .agg #[.int .i64 8, .int .i64 0, .int .i64 0, .int .i64 0], .slice (some ⟨wA.heap.size, 0, none⟩) 2 2, .slice ve (ops.length + 2) vec, .int .i64 1, .slice ve (ops.length + 2) vec, .agg #[.slice z0 yn f0, .slice z1 yr f1, .bool false, .slice z3 yq f3], vs 0, vs 1, vs 2, vs 3, vs 4, vs 5, vs 6, vs 7, vs 8, vs 9, vs 10, vs 11], defers := [] } : Act); rw [e11], Below.refl _ _, rfl⟩
                case refine_14 =>
                  intro vs lo hi W hB hv _ _
                  have e12 : vs 12 = .bool true := hv 12 (by simp)
                  clear hv hce spL
                  simp only [e12]
                  (try simp only [Exit.then])
                  go_wp2_with fail
                  go_ret
                  exact ⟨rfl, below_on2 BV.out hB⟩
            · go_upto_region 23 with fail
              have hok : runOk 2 ops.length = true := by have := hlH.out; simp [runOk]; omega
              obtain ⟨R, hR⟩ : ∃ R, R = restOps (runM (newM 2) ops) := ⟨_, rfl⟩
              have hRc : Hid (R = (if cy then [⟨8, 0, 0, 0⟩] else []) ++ [⟨6, 0, 0, 0⟩, ⟨8, 0, 0, 0⟩]) := by
                show _ = _
                rw [hR, hcyH.out hok]
                rfl
              obtain ⟨y, hy⟩ : ∃ y, y = atM 2 (ops ++ R) := ⟨_, rfl⟩
              have hyf : Hid (∀ Z, (AscI Z ∧ ∀ z, z ∈ Z ↔ LvP y.os y.rs z) → Z.length = y.os.length ∧ y.cyc = false) := fun Z hZ => by
                rw [hy, hR] at hZ ⊢
                exact rest_len (.inr rfl) (by have := hlH.out; omega) hZ
              have hyc : Hid (y.cyc = false) := (hyf.out (liveL (y.os.map gobOf) y.rs) ⟨liveL_asc _ _, fun z => live_lv⟩).2
              have hys : Hid (¬ (y.rs.length > 8 ∨ y.os.length > 400) ∧ y.small) := by rw [hy]; exact atM_small _ _
              have imA2 : Hid (∀ (W : World) (B : Nat) (v : Value), W.ownsRow B 27 4 v (ops.length + R.length) (opsC ops ++ opsC R) → Calls Try.prog 7 #[.int .i64 2, v] W fun e w' => ∃ o r q, e = .returned (.agg #[o, r, .bool false, q]) ∧ TellI w' o r q y ∧ Below W.heap.size W w') := fun W B v h => by
                rw [← hyc.out, hy]
                exact implTell_calls W 2 (ops ++ R) v false B W.heap.size (ops_list (by rw [opsC_append]; exact h) (by rw [List.length_append])) (Nat.le_refl _)
              clear hy hR hok hcyH
              obtain ⟨i8, hi8, hz8, hs8, hb8⟩ := info_parts (show (Try.prog.info? 27).map (fun i => (i.zero, i.size, i.bytes)) = some (some (.agg #[.int .i64 0, .int .i64 0, .int .i64 0, .int .i64 0]), 4, 32) by kernel_rfl)
              have hsO : Hid (SrcAt (wr.alloc (.cells #[] 27)) 4 (.slice xa ops.length xc) ops.length (opsC ops)) := ops_src (own_belowO O3H.out (below_on2 B3r.out (below_1 wr _))) rfl
              have hown0 : Hid ((wr.alloc (.cells #[] 27)).ownsRow wr.heap.size 27 4 (.slice (some ⟨wr.heap.size, 0, none⟩) 0 0) 0 []) := World.ownsRow_made wr #[] 0 (Nat.le_refl _) (by unfold maxLen; omega) rfl
              have hnx1 : Hid (∀ v' w', w'.ownsRow wr.heap.size 27 4 v' (0 + ops.length) ([] ++ opsC ops) → (wr.alloc (.cells #[] 27)).grownBy w' (Value.slice (some ⟨wr.heap.size, 0, none⟩) 0 0).ownBlock → w'.ownsRow wr.heap.size 27 4 v' ops.length (opsC ops) ∧ Below wr.heap.size wr w') := fun v' w' g1 g2 => ⟨by rw [Nat.zero_add] at g1; exact g1, grown_below (Below.refl _ _) (Nat.le_refl _) _ (fun k hk => (World.ownsRow.lt hown0.out k hk).1) g2⟩
              go_upto_region 24 with (refine wpList_append_src rfl (.tmp 96) (.tmp 97) 28 rfl wr.heap.size 27 i8 (.agg #[.int .i64 0, .int .i64 0, .int .i64 0, .int .i64 0]) 4 32 Try.underlying28 hi8 hz8 hs8 hb8 rfl (by omega) _ 0 [] rfl hown0.out _ ops.length (opsC ops) rfl hsO.out (opsC_one ops) (by have := hlH.out; unfold maxLen; omega) (by have := hlH.out; omega) (by rw [World.size_alloc]; omega) (fun va wA o2 g2 _ => ?_); have hA := hnx1.out va wA o2 g2; have wAo : Hid _ := hA.1; have wAb : Hid _ := hA.2; obtain ⟨va, vac, rfl⟩ := own_slice o2; clear o2 g2 hA)
              rw [Nat.zero_add] at *
              have krA : wA.cell? ⟨bh, 2, none⟩ = some (.bool cy) := (wAb.out.cell (p := ⟨bh, 2, none⟩) hbhr.out).trans kr2
              have hszA : wr.heap.size ≤ wA.heap.size := wAb.out.size
              clear hsO hown0 hnx1 kr2 kr2H
              cases cy with
              | true =>
                obtain ⟨p1, p2, p3, p4⟩ := rowSrc (k := 1) [.int .i64 8, .int .i64 0, .int .i64 0, .int .i64 0] wAb.out wAo.out hszA rfl
                have p1H : Hid _ := p1
                have p2H : Hid _ := p2
                have p3H : Hid _ := p3
                have hnx2 : Hid (∀ v' w', w'.ownsRow wr.heap.size 27 4 v' (ops.length + 1) (opsC ops ++ [.int .i64 8, .int .i64 0, .int .i64 0, .int .i64 0]) → (wA.alloc (.cells (List.toArray [.int .i64 8, .int .i64 0, .int .i64 0, .int .i64 0]) 27)).grownBy w' (Value.slice va ops.length vac).ownBlock → w'.ownsRow wr.heap.size 27 4 v' (ops.length + 1) (opsC ops ++ [.int .i64 8, .int .i64 0, .int .i64 0, .int .i64 0]) ∧ Below wr.heap.size wr w') := fun v' w' g1 g2 => ⟨g1, p4 w' g2⟩
                clear p1 p2 p3 p4 wAo wAb hszA
                go_upto_region 26 with (refine wpList_append_src rfl (.tmp 101) (.tmp 103) 28 rfl wr.heap.size 27 i8 (.agg #[.int .i64 0, .int .i64 0, .int .i64 0, .int .i64 0]) 4 32 Try.underlying28 hi8 hz8 hs8 hb8 rfl (by omega) _ ops.length (opsC ops) rfl p1H.out _ 1 [.int .i64 8, .int .i64 0, .int .i64 0, .int .i64 0] rfl p2H.out (by simp [Value.oneCell']) (by have := hlH.out; unfold maxLen; omega) (by have := hlH.out; omega) p3H.out (fun vb wB o2 g2 _ => ?_); have hA := hnx2.out vb wB o2 g2; have wBo : Hid _ := hA.1; have wBb : Hid _ := hA.2; obtain ⟨vb, vbc, rfl⟩ := own_slice o2; clear o2 g2 hA)
                have hszB : wr.heap.size ≤ wB.heap.size := wBb.out.size
                clear p1H p2H p3H hnx2 krA
                obtain ⟨p1, p2, p3, p4⟩ := rowSrc (k := 2) [.int .i64 6, .int .i64 0, .int .i64 0, .int .i64 0, .int .i64 8, .int .i64 0, .int .i64 0, .int .i64 0] wBb.out wBo.out hszB rfl
                have p1H : Hid _ := p1
                have p2H : Hid _ := p2
                have p3H : Hid _ := p3
                have hnx3 : Hid (∀ v' w', w'.ownsRow wr.heap.size 27 4 v' (ops.length + 1 + 2) ((opsC ops ++ [Value.int IntKind.i64 8, Value.int IntKind.i64 0, Value.int IntKind.i64 0, Value.int IntKind.i64 0]) ++ [.int .i64 6, .int .i64 0, .int .i64 0, .int .i64 0, .int .i64 8, .int .i64 0, .int .i64 0, .int .i64 0]) → (wB.alloc (.cells (List.toArray [.int .i64 6, .int .i64 0, .int .i64 0, .int .i64 0, .int .i64 8, .int .i64 0, .int .i64 0, .int .i64 0]) 27)).grownBy w' (Value.slice vb (ops.length + 1) vbc).ownBlock → w'.ownsRow wr.heap.size 27 4 v' (ops.length + R.length) (opsC ops ++ opsC R) ∧ Below wr.heap.size wr w') := fun v' w' g1 g2 => ⟨by rw [hRc.out]; simpa [opsC] using g1, p4 w' g2⟩
                clear p1 p2 p3 p4 wBo wBb hszB
                go_upto_region 27 with (refine wpList_append_src rfl (.tmp 105) (.tmp 108) 28 rfl wr.heap.size 27 i8 (.agg #[.int .i64 0, .int .i64 0, .int .i64 0, .int .i64 0]) 4 32 Try.underlying28 hi8 hz8 hs8 hb8 rfl (by omega) _ (ops.length + 1) (opsC ops ++ [Value.int IntKind.i64 8, Value.int IntKind.i64 0, Value.int IntKind.i64 0, Value.int IntKind.i64 0]) rfl p1H.out _ 2 [.int .i64 6, .int .i64 0, .int .i64 0, .int .i64 0, .int .i64 8, .int .i64 0, .int .i64 0, .int .i64 0] rfl p2H.out (by simp [Value.oneCell']) (by have := hlH.out; unfold maxLen; omega) (by have := hlH.out; omega) p3H.out (fun ve wE o2 g2 _ => ?_); have hA := hnx3.out ve wE o2 g2; have wEo : Hid _ := hA.1; have wEb : Hid _ := hA.2; obtain ⟨ve, vec, rfl⟩ := own_slice o2; clear o2 g2 hA)
                have imC : Hid _ := imA2.out wE wr.heap.size _ wEo.out
                have BE : Hid (Below w1.heap.size w1 wE) := below_on2 B1r.out wEb.out
                clear p1H p2H p3H hnx3 wEo wEb imA2 hRc
                go_wp2_with fail
                refine (show Calls _ _ _ _ _ from imC.out).mono ?_
                rintro e w5 ⟨oz, rz, qz, rfl, TI2, hb5⟩
                obtain ⟨z0, f0, z1, f1, z3, f3, rfl, rfl, rfl, hobz, hroz⟩ := TI2
                go_upto_region 28 with fail
                have hbV : Below w5.heap.size w5 (w5.alloc (.cells #[.slice z0 y.os.length f0, .slice z1 y.rs.length f1, .bool false, .slice z3 y.qs.length f3] 34)) := below_1 _ _
                have hzV : (w5.alloc (.cells #[.slice z0 y.os.length f0, .slice z1 y.rs.length f1, .bool false, .slice z3 y.qs.length f3] 34)).heap[w5.heap.size]? = some (.cells #[.slice z0 y.os.length f0, .slice z1 y.rs.length f1, .bool false, .slice z3 y.qs.length f3] 34 (0, 0)) := heap_alloc_new w5 _
                have hsV : w5.heap.size < (w5.alloc (.cells #[.slice z0 y.os.length f0, .slice z1 y.rs.length f1, .bool false, .slice z3 y.qs.length f3] 34)).heap.size := by simp
                generalize w5.alloc (.cells #[.slice z0 y.os.length f0, .slice z1 y.rs.length f1, .bool false, .slice z3 y.qs.length f3] 34) = V at *
                have hce : Hid (∀ W, Below V.heap.size V W → W.cell? ⟨w5.heap.size, 0, none⟩ = some (.slice z0 y.os.length f0) ∧ W.cell? ⟨w5.heap.size, 1, none⟩ = some (.slice z1 y.rs.length f1) ∧ W.cell? ⟨w5.heap.size, 2, none⟩ = some (.bool false) ∧ W.cell? ⟨w5.heap.size, 3, none⟩ = some (.slice z3 y.qs.length f3)) := fun W hW => by
                  have h := (hW.block _ hsV).trans hzV
                  exact ⟨rangeAt_heap h 0 _ rfl, rangeAt_heap h 1 _ rfl, rangeAt_heap h 2 _ rfl, rangeAt_heap h 3 _ rfl⟩
                have spL : Hid (∀ W, Below V.heap.size V W → Calls Try.prog 10 #[.agg #[.slice z0 y.os.length f0, .slice z1 y.rs.length f1, .bool false, .slice z3 y.qs.length f3]] W fun e w' => (∃ a c, e = .returned (.slice a y.os.length c)) ∧ Below W.heap.size W w') := fun W hW => by
                  rw [← hyc.out]
                  exact reached_len (fun Z hZ => (hyf.out Z hZ).1) hys.out.2 hys.out.1 hobz hroz W (below_on2 hbV hW)
                have BV : Hid (Below w1.heap.size w1 V) := below_on2 BE.out (below_on2 hb5 hbV)
                clear hbV hzV hsV hobz hroz hb5 BE imC hyf hyc hys B1r B3r hbhr hi8 hz8 hs8 hb8 O3H X3H hi9 hz9 hs9 hb9 hlH hLl hn497 hge hge2
                generalize y.os.length = yn at *
                generalize y.rs.length = yr at *
                generalize y.qs.length = yq at *
                generalize w5.heap.size = bz at *
                refine wp_region_own (by kernel_rfl) (fun vs => { tmps := #[.slice C len cap, undef, vs 12, .int .i64 2, .slice xa ops.length xc, .pointer (some ⟨bh, 0, none⟩), .slice la LL.length lc, .pointer (some ⟨bx, 0, none⟩), .slice ia m ic, .int .i64 (m : Nat), .int .i64 (j : Nat), .slice ve (ops.length + 1 + 2) vec, .pointer (some ⟨bz, 0, none⟩), .slice C len cap, .bool false, .agg #[.int .i64 1, .int .i64 0, .int .i64 0, .int .i64 0], .slice (some ⟨w1.heap.size, 0, none⟩) 1 1, .slice mu 1 mv, .int .i64 1, .bool false, .tuple #[.int .i64 2, .slice xa ops.length xc], .slice C len cap, .tuple #[.int .i64 2, .slice xa ops.length xc], .int .i64 2, .slice xa ops.length xc, .int .i64 2, .slice xa ops.length xc, .agg #[.slice a0 m c0, .slice a1 rn c1, .bool true, .slice a3 qn c3], .agg #[.slice a0 m c0, .slice a1 rn c1, .bool true, .slice a3 qn c3], .slice la LL.length lc, .int .i64 2, .slice xa ops.length xc, .agg #[.slice sa m sc, .slice ra rn rc, .bool true, .slice qa qn qc], .pointer (some ⟨bh, 0, none⟩), .slice a0 m c0, .int .i64 (m : Nat), .pointer (some ⟨bx, 0, none⟩), .slice sa m sc, .int .i64 (m : Nat), .bool false, .bool false, .slice la LL.length lc, .int .i64 (LL.length : Nat), .agg #[.slice sa m sc, .slice ra rn rc, .bool true, .slice qa qn qc], .slice za LL.length zc, .int .i64 (LL.length : Nat), .bool false, .bool false, .bool false, .pointer (some ⟨bh, 2, none⟩), .bool true, .pointer (some ⟨bx, 2, none⟩), .bool true, .bool false, .bool false, .slice (some ⟨w9.heap.size, 0, none⟩) 0 0, .int .i64 (m : Nat), .pointer (some ⟨bh, 0, none⟩), .slice a0 m c0, .int .i64 (m : Nat), .bool false, u61, u62, u63, u64, u65, u66, u67, u68, u69, u70, u71, .int .i64 (j : Nat), .slice la LL.length lc, .int .i64 (LL.length : Nat), .bool false, u76, u77, u78, u79, u80, u81, u82, u83, u84, .slice xa ops.length xc, .int .i64 (ops.length : Nat), .bool false, .bool false, .int .i64 2, .bool true, .bool true, .int .i64 2, .bool false, .bool false, .bool false, .slice (some ⟨wr.heap.size, 0, none⟩) 0 0, .slice xa ops.length xc, .slice va ops.length vac, .pointer (some ⟨bh, 2, none⟩), .bool true, .slice va ops.length vac, .agg #[.int .i64 8, .int .i64 0, .int .i64 0, .int .i64 0], .slice (some ⟨wA.heap.size, 0, none⟩) 1 1, .slice vb (ops.length + 1) vbc, .slice vb (ops.length + 1) vbc, .agg #[.int .i64 6, .int .i64 0, .int .i64 0, .int .i64 0], .agg #[.int .i64 8, .int .i64 0, .int .i64 0, .int .i64 0], .slice (some ⟨wB.heap.size, 0, none⟩) 2 2, .slice ve (ops.length + 1 + 2) vec, .int .i64 2, .slice ve (ops.length + 1 + 2) vec, .agg #[.slice z0 yn f0, .slice z1 yr f1, .bool false, .slice z3 yq f3], vs 0, vs 1, vs 2, vs 3, vs 4, vs 5, vs 6, vs 7, vs 8, vs 9, vs 10, vs 11], defers := [] }) (lvc 4 yn [.pointer (some ⟨bz, 0, none⟩), .slice z0 yn f0, .int .i64 yn, .agg #[.slice z0 yn f0, .slice z1 yr f1, .bool false, .slice z3 yq f3], undef, .int .i64 yn, .bool true, .bool true, .pointer (some ⟨bz, 2, none⟩), .bool false, .bool true, .bool true, .bool true]) (fun i => if i = 12 then u2 else undef) rfl (fun _ _ _ _ _ _ _ _ h => h) (allAt_all ⟨?_, ?_, ?_, ?_, ?_, ?_, ?_, ?_, ?_, ?_, ?_, ?_, ?_, trivial⟩) ?_ (regForward_done (by kernel_rfl))
                case refine_1 =>
                  intro vs lo hi W hB hv
                  clear hv
                  go_wp2
                  exact ⟨.pointer (some ⟨bz, 0, none⟩), by rfl, Below.refl _ _, rfl⟩
                case refine_2 =>
                  intro vs lo hi W hB hv
                  have e0 : vs 0 = .pointer (some ⟨bz, 0, none⟩) := ((hv ⟨0, .data⟩ (by simp) rfl).1)
                  obtain ⟨g0, g1, g2, g3⟩ := hce.out W hB
                  clear hv
                  simp only [e0]
                  go_wp2
                  exact ⟨.slice z0 yn f0, by show _ = ({ tmps := #[.slice C len cap, undef, vs 12, .int .i64 2, .slice xa ops.length xc, .pointer (some ⟨bh, 0, none⟩), .slice la LL.length lc, .pointer (some ⟨bx, 0, none⟩), .slice ia m ic, .int .i64 (m : Nat), .int .i64 (j : Nat), .slice ve (ops.length + 1 + 2) vec, .pointer (some ⟨bz, 0, none⟩), .slice C len cap, .bool false, .agg #[.int .i64 1, .int .i64 0, .int .i64 0, .int .i64 0], .slice (some ⟨w1.heap.size, 0, none⟩) 1 1, .slice mu 1 mv, .int .i64 1, .bool false, .tuple #[.int .i64 2, .slice xa ops.length xc], .slice C len cap, .tuple #[.int .i64 2, .slice xa ops.length xc], .int .i64 2, .slice xa ops.length xc, .int .i64 2, .slice xa ops.length xc, .agg #[.slice a0 m c0, .slice a1 rn c1, .bool true, .slice a3 qn c3], .agg #[.slice a0 m c0, .slice a1 rn c1, .bool true, .slice a3 qn c3], .slice la LL.length lc, .int .i64 2, .slice xa ops.length xc, .agg #[.slice sa m sc, .slice ra rn rc, .bool true, .slice qa qn qc], .pointer (some ⟨bh, 0, none⟩), .slice a0 m c0, .int .i64 (m : Nat), .pointer (some ⟨bx, 0, none⟩), .slice sa m sc, .int .i64 (m : Nat), .bool false, .bool false, .slice la LL.length lc, .int .i64 (LL.length : Nat), .agg #[.slice sa m sc, .slice ra rn rc, .bool true, .slice qa qn qc], .slice za LL.length zc, .int .i64 (LL.length : Nat), .bool false, .bool false, .bool false, .pointer (some ⟨bh, 2, none⟩), .bool true, .pointer (some ⟨bx, 2, none⟩), .bool true, .bool false, .bool false, .slice (some ⟨w9.heap.size, 0, none⟩) 0 0, .int .i64 (m : Nat), .pointer (some ⟨bh, 0, none⟩), .slice a0 m c0, .int .i64 (m : Nat), .bool false, u61, u62, u63, u64, u65, u66, u67, u68, u69, u70, u71, .int .i64 (j : Nat), .slice la LL.length lc, .int .i64 (LL.length : Nat), .bool false, u76, u77, u78, u79, u80, u81, u82, u83, u84, .slice xa ops.length xc, .int .i64 (ops.length : Nat), .bool false, .bool false, .int .i64 2, .bool true, .bool true, .int .i64 2, .bool false, .bool false, .bool false, .slice (some ⟨wr.heap.size, 0, none⟩) 0 0, .slice xa ops.length xc, .slice va ops.length vac, .pointer (some ⟨bh, 2, none⟩), .bool true, .slice va ops.length vac, .agg #[.int .i64 8, .int .i64 0, .int .i64 0, .int .i64 0], .slice (some ⟨wA.heap.size, 0, none⟩) 1 1, .slice vb (ops.length + 1) vbc, .slice vb (ops.length + 1) vbc, .agg #[.int .i64 6, .int .i64 0, .int .i64 0, .int .i64 0], .agg #[.int .i64 8, .int .i64 0, .int .i64 0, .int .i64 0], .slice (some ⟨wB.heap.size, 0, none⟩) 2 2, .slice ve (ops.length + 1 + 2) vec, .int .i64 2, .slice ve (ops.length + 1 + 2) vec, .agg #[.slice z0 yn f0, .slice z1 yr f1, .bool false, .slice z3 yq f3], vs 0, .slice z0 yn f0, vs 2, vs 3, vs 4, vs 5, vs 6, vs 7, vs 8, vs 9, vs 10, vs 11], defers := [] } : Act); rw [e0], Below.refl _ _, rfl⟩
                case refine_3 =>
                  intro vs lo hi W hB hv
                  have e1 : vs 1 = .slice z0 yn f0 := ((hv ⟨1, .data⟩ (by simp) rfl).1)
                  clear hv
                  simp only [e1]
                  go_wp2
                  exact ⟨.int .i64 yn, by first | (rw [← e1]; rfl) | (simp [upd, e1]), Below.refl _ _, rfl⟩
                case refine_4 =>
                  intro vs lo hi W hB hv
                  obtain ⟨g0, g1, g2, g3⟩ := hce.out W hB
                  clear hv
                  go_wp2
                  exact ⟨.agg #[.slice z0 yn f0, .slice z1 yr f1, .bool false, .slice z3 yq f3], by rfl, Below.refl _ _, rfl⟩
                case refine_5 =>
                  intro vs lo hi W hB hv
                  have e3 : vs 3 = .agg #[.slice z0 yn f0, .slice z1 yr f1, .bool false, .slice z3 yq f3] := ((hv ⟨3, .data⟩ (by simp) rfl).1)
                  have hq : Hid _ := spL.out W hB
                  clear hv
                  simp only [e3]
                  go_wp2_with (go_at_call 10; refine (show Calls _ _ _ _ _ from hq.out).mono ?_; rintro e W2 ⟨⟨ua, uc, rfl⟩, hB2⟩)
                  exact ⟨.slice ua yn uc, by show _ = ({ tmps := #[.slice C len cap, undef, vs 12, .int .i64 2, .slice xa ops.length xc, .pointer (some ⟨bh, 0, none⟩), .slice la LL.length lc, .pointer (some ⟨bx, 0, none⟩), .slice ia m ic, .int .i64 (m : Nat), .int .i64 (j : Nat), .slice ve (ops.length + 1 + 2) vec, .pointer (some ⟨bz, 0, none⟩), .slice C len cap, .bool false, .agg #[.int .i64 1, .int .i64 0, .int .i64 0, .int .i64 0], .slice (some ⟨w1.heap.size, 0, none⟩) 1 1, .slice mu 1 mv, .int .i64 1, .bool false, .tuple #[.int .i64 2, .slice xa ops.length xc], .slice C len cap, .tuple #[.int .i64 2, .slice xa ops.length xc], .int .i64 2, .slice xa ops.length xc, .int .i64 2, .slice xa ops.length xc, .agg #[.slice a0 m c0, .slice a1 rn c1, .bool true, .slice a3 qn c3], .agg #[.slice a0 m c0, .slice a1 rn c1, .bool true, .slice a3 qn c3], .slice la LL.length lc, .int .i64 2, .slice xa ops.length xc, .agg #[.slice sa m sc, .slice ra rn rc, .bool true, .slice qa qn qc], .pointer (some ⟨bh, 0, none⟩), .slice a0 m c0, .int .i64 (m : Nat), .pointer (some ⟨bx, 0, none⟩), .slice sa m sc, .int .i64 (m : Nat), .bool false, .bool false, .slice la LL.length lc, .int .i64 (LL.length : Nat), .agg #[.slice sa m sc, .slice ra rn rc, .bool true, .slice qa qn qc], .slice za LL.length zc, .int .i64 (LL.length : Nat), .bool false, .bool false, .bool false, .pointer (some ⟨bh, 2, none⟩), .bool true, .pointer (some ⟨bx, 2, none⟩), .bool true, .bool false, .bool false, .slice (some ⟨w9.heap.size, 0, none⟩) 0 0, .int .i64 (m : Nat), .pointer (some ⟨bh, 0, none⟩), .slice a0 m c0, .int .i64 (m : Nat), .bool false, u61, u62, u63, u64, u65, u66, u67, u68, u69, u70, u71, .int .i64 (j : Nat), .slice la LL.length lc, .int .i64 (LL.length : Nat), .bool false, u76, u77, u78, u79, u80, u81, u82, u83, u84, .slice xa ops.length xc, .int .i64 (ops.length : Nat), .bool false, .bool false, .int .i64 2, .bool true, .bool true, .int .i64 2, .bool false, .bool false, .bool false, .slice (some ⟨wr.heap.size, 0, none⟩) 0 0, .slice xa ops.length xc, .slice va ops.length vac, .pointer (some ⟨bh, 2, none⟩), .bool true, .slice va ops.length vac, .agg #[.int .i64 8, .int .i64 0, .int .i64 0, .int .i64 0], .slice (some ⟨wA.heap.size, 0, none⟩) 1 1, .slice vb (ops.length + 1) vbc, .slice vb (ops.length + 1) vbc, .agg #[.int .i64 6, .int .i64 0, .int .i64 0, .int .i64 0], .agg #[.int .i64 8, .int .i64 0, .int .i64 0, .int .i64 0], .slice (some ⟨wB.heap.size, 0, none⟩) 2 2, .slice ve (ops.length + 1 + 2) vec, .int .i64 2, .slice ve (ops.length + 1 + 2) vec, .agg #[.slice z0 yn f0, .slice z1 yr f1, .bool false, .slice z3 yq f3], vs 0, vs 1, vs 2, vs 3, .slice ua yn uc, vs 5, vs 6, vs 7, vs 8, vs 9, vs 10, vs 11], defers := [] } : Act); rw [e3], hB2, ⟨_, _, rfl⟩⟩
                case refine_6 =>
                  intro vs lo hi W hB hv
                  obtain ⟨ua, uc, e4⟩ := (show ∃ a c, vs 4 = Value.slice a yn c from (hv ⟨4, .data⟩ (by simp) rfl).1)
                  clear hv
                  simp only [e4]
                  go_wp2
                  exact ⟨.int .i64 yn, by first | (rw [← e4]; rfl) | (simp [upd, e4]), Below.refl _ _, rfl⟩
                case refine_7 =>
                  intro vs lo hi W hB hv
                  have e2 : vs 2 = .int .i64 yn := ((hv ⟨2, .data⟩ (by simp) rfl).1)
                  have e5 : vs 5 = .int .i64 yn := ((hv ⟨5, .data⟩ (by simp) rfl).1)
                  clear hv
                  simp only [e2, e5]
                  go_wp2
                  exact ⟨.bool true, by show _ = ({ tmps := #[.slice C len cap, undef, vs 12, .int .i64 2, .slice xa ops.length xc, .pointer (some ⟨bh, 0, none⟩), .slice la LL.length lc, .pointer (some ⟨bx, 0, none⟩), .slice ia m ic, .int .i64 (m : Nat), .int .i64 (j : Nat), .slice ve (ops.length + 1 + 2) vec, .pointer (some ⟨bz, 0, none⟩), .slice C len cap, .bool false, .agg #[.int .i64 1, .int .i64 0, .int .i64 0, .int .i64 0], .slice (some ⟨w1.heap.size, 0, none⟩) 1 1, .slice mu 1 mv, .int .i64 1, .bool false, .tuple #[.int .i64 2, .slice xa ops.length xc], .slice C len cap, .tuple #[.int .i64 2, .slice xa ops.length xc], .int .i64 2, .slice xa ops.length xc, .int .i64 2, .slice xa ops.length xc, .agg #[.slice a0 m c0, .slice a1 rn c1, .bool true, .slice a3 qn c3], .agg #[.slice a0 m c0, .slice a1 rn c1, .bool true, .slice a3 qn c3], .slice la LL.length lc, .int .i64 2, .slice xa ops.length xc, .agg #[.slice sa m sc, .slice ra rn rc, .bool true, .slice qa qn qc], .pointer (some ⟨bh, 0, none⟩), .slice a0 m c0, .int .i64 (m : Nat), .pointer (some ⟨bx, 0, none⟩), .slice sa m sc, .int .i64 (m : Nat), .bool false, .bool false, .slice la LL.length lc, .int .i64 (LL.length : Nat), .agg #[.slice sa m sc, .slice ra rn rc, .bool true, .slice qa qn qc], .slice za LL.length zc, .int .i64 (LL.length : Nat), .bool false, .bool false, .bool false, .pointer (some ⟨bh, 2, none⟩), .bool true, .pointer (some ⟨bx, 2, none⟩), .bool true, .bool false, .bool false, .slice (some ⟨w9.heap.size, 0, none⟩) 0 0, .int .i64 (m : Nat), .pointer (some ⟨bh, 0, none⟩), .slice a0 m c0, .int .i64 (m : Nat), .bool false, u61, u62, u63, u64, u65, u66, u67, u68, u69, u70, u71, .int .i64 (j : Nat), .slice la LL.length lc, .int .i64 (LL.length : Nat), .bool false, u76, u77, u78, u79, u80, u81, u82, u83, u84, .slice xa ops.length xc, .int .i64 (ops.length : Nat), .bool false, .bool false, .int .i64 2, .bool true, .bool true, .int .i64 2, .bool false, .bool false, .bool false, .slice (some ⟨wr.heap.size, 0, none⟩) 0 0, .slice xa ops.length xc, .slice va ops.length vac, .pointer (some ⟨bh, 2, none⟩), .bool true, .slice va ops.length vac, .agg #[.int .i64 8, .int .i64 0, .int .i64 0, .int .i64 0], .slice (some ⟨wA.heap.size, 0, none⟩) 1 1, .slice vb (ops.length + 1) vbc, .slice vb (ops.length + 1) vbc, .agg #[.int .i64 6, .int .i64 0, .int .i64 0, .int .i64 0], .agg #[.int .i64 8, .int .i64 0, .int .i64 0, .int .i64 0], .slice (some ⟨wB.heap.size, 0, none⟩) 2 2, .slice ve (ops.length + 1 + 2) vec, .int .i64 2, .slice ve (ops.length + 1 + 2) vec, .agg #[.slice z0 yn f0, .slice z1 yr f1, .bool false, .slice z3 yq f3], vs 0, vs 1, vs 2, vs 3, vs 4, vs 5, .bool true, vs 7, vs 8, vs 9, vs 10, vs 11], defers := [] } : Act); rw [e2, e5], Below.refl _ _, rfl⟩
                case refine_8 =>
                  intro vs lo hi W hB hv
                  have e6 : vs 6 = .bool true := ((hv ⟨6, .data⟩ (by simp) rfl).1)
                  clear hv
                  simp only [e6]
                  go_wp2
                  exact ⟨.bool true, by show _ = ({ tmps := #[.slice C len cap, undef, vs 12, .int .i64 2, .slice xa ops.length xc, .pointer (some ⟨bh, 0, none⟩), .slice la LL.length lc, .pointer (some ⟨bx, 0, none⟩), .slice ia m ic, .int .i64 (m : Nat), .int .i64 (j : Nat), .slice ve (ops.length + 1 + 2) vec, .pointer (some ⟨bz, 0, none⟩), .slice C len cap, .bool false, .agg #[.int .i64 1, .int .i64 0, .int .i64 0, .int .i64 0], .slice (some ⟨w1.heap.size, 0, none⟩) 1 1, .slice mu 1 mv, .int .i64 1, .bool false, .tuple #[.int .i64 2, .slice xa ops.length xc], .slice C len cap, .tuple #[.int .i64 2, .slice xa ops.length xc], .int .i64 2, .slice xa ops.length xc, .int .i64 2, .slice xa ops.length xc, .agg #[.slice a0 m c0, .slice a1 rn c1, .bool true, .slice a3 qn c3], .agg #[.slice a0 m c0, .slice a1 rn c1, .bool true, .slice a3 qn c3], .slice la LL.length lc, .int .i64 2, .slice xa ops.length xc, .agg #[.slice sa m sc, .slice ra rn rc, .bool true, .slice qa qn qc], .pointer (some ⟨bh, 0, none⟩), .slice a0 m c0, .int .i64 (m : Nat), .pointer (some ⟨bx, 0, none⟩), .slice sa m sc, .int .i64 (m : Nat), .bool false, .bool false, .slice la LL.length lc, .int .i64 (LL.length : Nat), .agg #[.slice sa m sc, .slice ra rn rc, .bool true, .slice qa qn qc], .slice za LL.length zc, .int .i64 (LL.length : Nat), .bool false, .bool false, .bool false, .pointer (some ⟨bh, 2, none⟩), .bool true, .pointer (some ⟨bx, 2, none⟩), .bool true, .bool false, .bool false, .slice (some ⟨w9.heap.size, 0, none⟩) 0 0, .int .i64 (m : Nat), .pointer (some ⟨bh, 0, none⟩), .slice a0 m c0, .int .i64 (m : Nat), .bool false, u61, u62, u63, u64, u65, u66, u67, u68, u69, u70, u71, .int .i64 (j : Nat), .slice la LL.length lc, .int .i64 (LL.length : Nat), .bool false, u76, u77, u78, u79, u80, u81, u82, u83, u84, .slice xa ops.length xc, .int .i64 (ops.length : Nat), .bool false, .bool false, .int .i64 2, .bool true, .bool true, .int .i64 2, .bool false, .bool false, .bool false, .slice (some ⟨wr.heap.size, 0, none⟩) 0 0, .slice xa ops.length xc, .slice va ops.length vac, .pointer (some ⟨bh, 2, none⟩), .bool true, .slice va ops.length vac, .agg #[.int .i64 8, .int .i64 0, .int .i64 0, .int .i64 0], .slice (some ⟨wA.heap.size, 0, none⟩) 1 1, .slice vb (ops.length + 1) vbc, .slice vb (ops.length + 1) vbc, .agg #[.int .i64 6, .int .i64 0, .int .i64 0, .int .i64 0], .agg #[.int .i64 8, .int .i64 0, .int .i64 0, .int .i64 0], .slice (some ⟨wB.heap.size, 0, none⟩) 2 2, .slice ve (ops.length + 1 + 2) vec, .int .i64 2, .slice ve (ops.length + 1 + 2) vec, .agg #[.slice z0 yn f0, .slice z1 yr f1, .bool false, .slice z3 yq f3], vs 0, vs 1, vs 2, vs 3, vs 4, vs 5, vs 6, .bool true, vs 8, vs 9, vs 10, vs 11], defers := [] } : Act); rw [e6], Below.refl _ _, rfl⟩
                case refine_9 =>
                  intro vs lo hi W hB hv
                  have e7 : vs 7 = .bool true := ((hv ⟨7, .guard⟩ (by simp) rfl).1)
                  clear hv
                  simp only [e7]
                  go_wp2
                  exact ⟨.pointer (some ⟨bz, 2, none⟩), by show _ = ({ tmps := #[.slice C len cap, undef, vs 12, .int .i64 2, .slice xa ops.length xc, .pointer (some ⟨bh, 0, none⟩), .slice la LL.length lc, .pointer (some ⟨bx, 0, none⟩), .slice ia m ic, .int .i64 (m : Nat), .int .i64 (j : Nat), .slice ve (ops.length + 1 + 2) vec, .pointer (some ⟨bz, 0, none⟩), .slice C len cap, .bool false, .agg #[.int .i64 1, .int .i64 0, .int .i64 0, .int .i64 0], .slice (some ⟨w1.heap.size, 0, none⟩) 1 1, .slice mu 1 mv, .int .i64 1, .bool false, .tuple #[.int .i64 2, .slice xa ops.length xc], .slice C len cap, .tuple #[.int .i64 2, .slice xa ops.length xc], .int .i64 2, .slice xa ops.length xc, .int .i64 2, .slice xa ops.length xc, .agg #[.slice a0 m c0, .slice a1 rn c1, .bool true, .slice a3 qn c3], .agg #[.slice a0 m c0, .slice a1 rn c1, .bool true, .slice a3 qn c3], .slice la LL.length lc, .int .i64 2, .slice xa ops.length xc, .agg #[.slice sa m sc, .slice ra rn rc, .bool true, .slice qa qn qc], .pointer (some ⟨bh, 0, none⟩), .slice a0 m c0, .int .i64 (m : Nat), .pointer (some ⟨bx, 0, none⟩), .slice sa m sc, .int .i64 (m : Nat), .bool false, .bool false, .slice la LL.length lc, .int .i64 (LL.length : Nat), .agg #[.slice sa m sc, .slice ra rn rc, .bool true, .slice qa qn qc], .slice za LL.length zc, .int .i64 (LL.length : Nat), .bool false, .bool false, .bool false, .pointer (some ⟨bh, 2, none⟩), .bool true, .pointer (some ⟨bx, 2, none⟩), .bool true, .bool false, .bool false, .slice (some ⟨w9.heap.size, 0, none⟩) 0 0, .int .i64 (m : Nat), .pointer (some ⟨bh, 0, none⟩), .slice a0 m c0, .int .i64 (m : Nat), .bool false, u61, u62, u63, u64, u65, u66, u67, u68, u69, u70, u71, .int .i64 (j : Nat), .slice la LL.length lc, .int .i64 (LL.length : Nat), .bool false, u76, u77, u78, u79, u80, u81, u82, u83, u84, .slice xa ops.length xc, .int .i64 (ops.length : Nat), .bool false, .bool false, .int .i64 2, .bool true, .bool true, .int .i64 2, .bool false, .bool false, .bool false, .slice (some ⟨wr.heap.size, 0, none⟩) 0 0, .slice xa ops.length xc, .slice va ops.length vac, .pointer (some ⟨bh, 2, none⟩), .bool true, .slice va ops.length vac, .agg #[.int .i64 8, .int .i64 0, .int .i64 0, .int .i64 0], .slice (some ⟨wA.heap.size, 0, none⟩) 1 1, .slice vb (ops.length + 1) vbc, .slice vb (ops.length + 1) vbc, .agg #[.int .i64 6, .int .i64 0, .int .i64 0, .int .i64 0], .agg #[.int .i64 8, .int .i64 0, .int .i64 0, .int .i64 0], .slice (some ⟨wB.heap.size, 0, none⟩) 2 2, .slice ve (ops.length + 1 + 2) vec, .int .i64 2, .slice ve (ops.length + 1 + 2) vec, .agg #[.slice z0 yn f0, .slice z1 yr f1, .bool false, .slice z3 yq f3], vs 0, vs 1, vs 2, vs 3, vs 4, vs 5, vs 6, vs 7, .pointer (some ⟨bz, 2, none⟩), vs 9, vs 10, vs 11], defers := [] } : Act); rw [e7], Below.refl _ _, rfl⟩
                case refine_10 =>
                  intro vs lo hi W hB hv
                  have e8 : vs 8 = .pointer (some ⟨bz, 2, none⟩) := ((hv ⟨8, .data⟩ (by simp) rfl).1)
                  have e7 : vs 7 = .bool true := ((hv ⟨7, .guard⟩ (by simp) rfl).1)
                  obtain ⟨g0, g1, g2, g3⟩ := hce.out W hB
                  clear hv
                  simp only [e8, e7]
                  go_wp2
                  exact ⟨.bool false, by show _ = ({ tmps := #[.slice C len cap, undef, vs 12, .int .i64 2, .slice xa ops.length xc, .pointer (some ⟨bh, 0, none⟩), .slice la LL.length lc, .pointer (some ⟨bx, 0, none⟩), .slice ia m ic, .int .i64 (m : Nat), .int .i64 (j : Nat), .slice ve (ops.length + 1 + 2) vec, .pointer (some ⟨bz, 0, none⟩), .slice C len cap, .bool false, .agg #[.int .i64 1, .int .i64 0, .int .i64 0, .int .i64 0], .slice (some ⟨w1.heap.size, 0, none⟩) 1 1, .slice mu 1 mv, .int .i64 1, .bool false, .tuple #[.int .i64 2, .slice xa ops.length xc], .slice C len cap, .tuple #[.int .i64 2, .slice xa ops.length xc], .int .i64 2, .slice xa ops.length xc, .int .i64 2, .slice xa ops.length xc, .agg #[.slice a0 m c0, .slice a1 rn c1, .bool true, .slice a3 qn c3], .agg #[.slice a0 m c0, .slice a1 rn c1, .bool true, .slice a3 qn c3], .slice la LL.length lc, .int .i64 2, .slice xa ops.length xc, .agg #[.slice sa m sc, .slice ra rn rc, .bool true, .slice qa qn qc], .pointer (some ⟨bh, 0, none⟩), .slice a0 m c0, .int .i64 (m : Nat), .pointer (some ⟨bx, 0, none⟩), .slice sa m sc, .int .i64 (m : Nat), .bool false, .bool false, .slice la LL.length lc, .int .i64 (LL.length : Nat), .agg #[.slice sa m sc, .slice ra rn rc, .bool true, .slice qa qn qc], .slice za LL.length zc, .int .i64 (LL.length : Nat), .bool false, .bool false, .bool false, .pointer (some ⟨bh, 2, none⟩), .bool true, .pointer (some ⟨bx, 2, none⟩), .bool true, .bool false, .bool false, .slice (some ⟨w9.heap.size, 0, none⟩) 0 0, .int .i64 (m : Nat), .pointer (some ⟨bh, 0, none⟩), .slice a0 m c0, .int .i64 (m : Nat), .bool false, u61, u62, u63, u64, u65, u66, u67, u68, u69, u70, u71, .int .i64 (j : Nat), .slice la LL.length lc, .int .i64 (LL.length : Nat), .bool false, u76, u77, u78, u79, u80, u81, u82, u83, u84, .slice xa ops.length xc, .int .i64 (ops.length : Nat), .bool false, .bool false, .int .i64 2, .bool true, .bool true, .int .i64 2, .bool false, .bool false, .bool false, .slice (some ⟨wr.heap.size, 0, none⟩) 0 0, .slice xa ops.length xc, .slice va ops.length vac, .pointer (some ⟨bh, 2, none⟩), .bool true, .slice va ops.length vac, .agg #[.int .i64 8, .int .i64 0, .int .i64 0, .int .i64 0], .slice (some ⟨wA.heap.size, 0, none⟩) 1 1, .slice vb (ops.length + 1) vbc, .slice vb (ops.length + 1) vbc, .agg #[.int .i64 6, .int .i64 0, .int .i64 0, .int .i64 0], .agg #[.int .i64 8, .int .i64 0, .int .i64 0, .int .i64 0], .slice (some ⟨wB.heap.size, 0, none⟩) 2 2, .slice ve (ops.length + 1 + 2) vec, .int .i64 2, .slice ve (ops.length + 1 + 2) vec, .agg #[.slice z0 yn f0, .slice z1 yr f1, .bool false, .slice z3 yq f3], vs 0, vs 1, vs 2, vs 3, vs 4, vs 5, vs 6, vs 7, vs 8, .bool false, vs 10, vs 11], defers := [] } : Act); rw [e8, e7], Below.refl _ _, rfl⟩
                case refine_11 =>
                  intro vs lo hi W hB hv
                  have e9 : vs 9 = .bool false := ((hv ⟨9, .data⟩ (by simp) rfl).1)
                  have e7 : vs 7 = .bool true := ((hv ⟨7, .guard⟩ (by simp) rfl).1)
                  clear hv
                  simp only [e9, e7]
                  go_wp2
                  exact ⟨.bool true, by show _ = ({ tmps := #[.slice C len cap, undef, vs 12, .int .i64 2, .slice xa ops.length xc, .pointer (some ⟨bh, 0, none⟩), .slice la LL.length lc, .pointer (some ⟨bx, 0, none⟩), .slice ia m ic, .int .i64 (m : Nat), .int .i64 (j : Nat), .slice ve (ops.length + 1 + 2) vec, .pointer (some ⟨bz, 0, none⟩), .slice C len cap, .bool false, .agg #[.int .i64 1, .int .i64 0, .int .i64 0, .int .i64 0], .slice (some ⟨w1.heap.size, 0, none⟩) 1 1, .slice mu 1 mv, .int .i64 1, .bool false, .tuple #[.int .i64 2, .slice xa ops.length xc], .slice C len cap, .tuple #[.int .i64 2, .slice xa ops.length xc], .int .i64 2, .slice xa ops.length xc, .int .i64 2, .slice xa ops.length xc, .agg #[.slice a0 m c0, .slice a1 rn c1, .bool true, .slice a3 qn c3], .agg #[.slice a0 m c0, .slice a1 rn c1, .bool true, .slice a3 qn c3], .slice la LL.length lc, .int .i64 2, .slice xa ops.length xc, .agg #[.slice sa m sc, .slice ra rn rc, .bool true, .slice qa qn qc], .pointer (some ⟨bh, 0, none⟩), .slice a0 m c0, .int .i64 (m : Nat), .pointer (some ⟨bx, 0, none⟩), .slice sa m sc, .int .i64 (m : Nat), .bool false, .bool false, .slice la LL.length lc, .int .i64 (LL.length : Nat), .agg #[.slice sa m sc, .slice ra rn rc, .bool true, .slice qa qn qc], .slice za LL.length zc, .int .i64 (LL.length : Nat), .bool false, .bool false, .bool false, .pointer (some ⟨bh, 2, none⟩), .bool true, .pointer (some ⟨bx, 2, none⟩), .bool true, .bool false, .bool false, .slice (some ⟨w9.heap.size, 0, none⟩) 0 0, .int .i64 (m : Nat), .pointer (some ⟨bh, 0, none⟩), .slice a0 m c0, .int .i64 (m : Nat), .bool false, u61, u62, u63, u64, u65, u66, u67, u68, u69, u70, u71, .int .i64 (j : Nat), .slice la LL.length lc, .int .i64 (LL.length : Nat), .bool false, u76, u77, u78, u79, u80, u81, u82, u83, u84, .slice xa ops.length xc, .int .i64 (ops.length : Nat), .bool false, .bool false, .int .i64 2, .bool true, .bool true, .int .i64 2, .bool false, .bool false, .bool false, .slice (some ⟨wr.heap.size, 0, none⟩) 0 0, .slice xa ops.length xc, .slice va ops.length vac, .pointer (some ⟨bh, 2, none⟩), .bool true, .slice va ops.length vac, .agg #[.int .i64 8, .int .i64 0, .int .i64 0, .int .i64 0], .slice (some ⟨wA.heap.size, 0, none⟩) 1 1, .slice vb (ops.length + 1) vbc, .slice vb (ops.length + 1) vbc, .agg #[.int .i64 6, .int .i64 0, .int .i64 0, .int .i64 0], .agg #[.int .i64 8, .int .i64 0, .int .i64 0, .int .i64 0], .slice (some ⟨wB.heap.size, 0, none⟩) 2 2, .slice ve (ops.length + 1 + 2) vec, .int .i64 2, .slice ve (ops.length + 1 + 2) vec, .agg #[.slice z0 yn f0, .slice z1 yr f1, .bool false, .slice z3 yq f3], vs 0, vs 1, vs 2, vs 3, vs 4, vs 5, vs 6, vs 7, vs 8, vs 9, .bool true, vs 11], defers := [] } : Act); rw [e9, e7], Below.refl _ _, rfl⟩
                case refine_12 =>
                  intro vs lo hi W hB hv
                  have e7 : vs 7 = .bool true := ((hv ⟨7, .data⟩ (by simp) rfl).1)
                  have e10 : vs 10 = .bool true := ((hv ⟨10, .data⟩ (by simp) rfl).1)
                  clear hv
                  simp only [e7, e10]
                  go_wp2
                  exact ⟨.bool true, by show _ = ({ tmps := #[.slice C len cap, undef, vs 12, .int .i64 2, .slice xa ops.length xc, .pointer (some ⟨bh, 0, none⟩), .slice la LL.length lc, .pointer (some ⟨bx, 0, none⟩), .slice ia m ic, .int .i64 (m : Nat), .int .i64 (j : Nat), .slice ve (ops.length + 1 + 2) vec, .pointer (some ⟨bz, 0, none⟩), .slice C len cap, .bool false, .agg #[.int .i64 1, .int .i64 0, .int .i64 0, .int .i64 0], .slice (some ⟨w1.heap.size, 0, none⟩) 1 1, .slice mu 1 mv, .int .i64 1, .bool false, .tuple #[.int .i64 2, .slice xa ops.length xc], .slice C len cap, .tuple #[.int .i64 2, .slice xa ops.length xc], .int .i64 2, .slice xa ops.length xc, .int .i64 2, .slice xa ops.length xc, .agg #[.slice a0 m c0, .slice a1 rn c1, .bool true, .slice a3 qn c3], .agg #[.slice a0 m c0, .slice a1 rn c1, .bool true, .slice a3 qn c3], .slice la LL.length lc, .int .i64 2, .slice xa ops.length xc, .agg #[.slice sa m sc, .slice ra rn rc, .bool true, .slice qa qn qc], .pointer (some ⟨bh, 0, none⟩), .slice a0 m c0, .int .i64 (m : Nat), .pointer (some ⟨bx, 0, none⟩), .slice sa m sc, .int .i64 (m : Nat), .bool false, .bool false, .slice la LL.length lc, .int .i64 (LL.length : Nat), .agg #[.slice sa m sc, .slice ra rn rc, .bool true, .slice qa qn qc], .slice za LL.length zc, .int .i64 (LL.length : Nat), .bool false, .bool false, .bool false, .pointer (some ⟨bh, 2, none⟩), .bool true, .pointer (some ⟨bx, 2, none⟩), .bool true, .bool false, .bool false, .slice (some ⟨w9.heap.size, 0, none⟩) 0 0, .int .i64 (m : Nat), .pointer (some ⟨bh, 0, none⟩), .slice a0 m c0, .int .i64 (m : Nat), .bool false, u61, u62, u63, u64, u65, u66, u67, u68, u69, u70, u71, .int .i64 (j : Nat), .slice la LL.length lc, .int .i64 (LL.length : Nat), .bool false, u76, u77, u78, u79, u80, u81, u82, u83, u84, .slice xa ops.length xc, .int .i64 (ops.length : Nat), .bool false, .bool false, .int .i64 2, .bool true, .bool true, .int .i64 2, .bool false, .bool false, .bool false, .slice (some ⟨wr.heap.size, 0, none⟩) 0 0, .slice xa ops.length xc, .slice va ops.length vac, .pointer (some ⟨bh, 2, none⟩), .bool true, .slice va ops.length vac, .agg #[.int .i64 8, .int .i64 0, .int .i64 0, .int .i64 0], .slice (some ⟨wA.heap.size, 0, none⟩) 1 1, .slice vb (ops.length + 1) vbc, .slice vb (ops.length + 1) vbc, .agg #[.int .i64 6, .int .i64 0, .int .i64 0, .int .i64 0], .agg #[.int .i64 8, .int .i64 0, .int .i64 0, .int .i64 0], .slice (some ⟨wB.heap.size, 0, none⟩) 2 2, .slice ve (ops.length + 1 + 2) vec, .int .i64 2, .slice ve (ops.length + 1 + 2) vec, .agg #[.slice z0 yn f0, .slice z1 yr f1, .bool false, .slice z3 yq f3], vs 0, vs 1, vs 2, vs 3, vs 4, vs 5, vs 6, vs 7, vs 8, vs 9, vs 10, .bool true], defers := [] } : Act); rw [e7, e10], Below.refl _ _, rfl⟩
                case refine_13 =>
                  intro vs lo hi W hB hv
                  have e11 : vs 11 = .bool true := ((hv ⟨11, .data⟩ (by simp) rfl).1)
                  clear hv
                  simp only [e11]
                  go_wp2
                  exact ⟨.bool true, by show _ = ({ tmps := #[.slice C len cap, undef, .bool true, .int .i64 2, .slice xa ops.length xc, .pointer (some ⟨bh, 0, none⟩), .slice la LL.length lc, .pointer (some ⟨bx, 0, none⟩), .slice ia m ic, .int .i64 (m : Nat), .int .i64 (j : Nat), .slice ve (ops.length + 1 + 2) vec, .pointer (some ⟨bz, 0, none⟩), .slice C len cap, .bool false, .agg #[.int .i64 1, .int .i64 0, .int .i64 0, .int .i64 0], .slice (some ⟨w1.heap.size, 0, none⟩) 1 1, .slice mu 1 mv, .int .i64 1, .bool false, .tuple #[.int .i64 2, .slice xa ops.length xc], .slice C len cap, .tuple #[.int .i64 2, .slice xa ops.length xc], .int .i64 2, .slice xa ops.length xc, .int .i64 2, .slice xa ops.length xc, .agg #[.slice a0 m c0, .slice a1 rn c1, .bool true, .slice a3 qn c3], .agg #[.slice a0 m c0, .slice a1 rn c1, .bool true, .slice a3 qn c3], .slice la LL.length lc, .int .i64 2, .slice xa ops.length xc, .agg #[.slice sa m sc, .slice ra rn rc, .bool true, .slice qa qn qc], .pointer (some ⟨bh, 0, none⟩), .slice a0 m c0, .int .i64 (m : Nat), .pointer (some ⟨bx, 0, none⟩), .slice sa m sc, .int .i64 (m : Nat), .bool false, .bool false, .slice la LL.length lc, .int .i64 (LL.length : Nat), .agg #[.slice sa m sc, .slice ra rn rc, .bool true, .slice qa qn qc], .slice za LL.length zc, .int .i64 (LL.length : Nat), .bool false, .bool false, .bool false, .pointer (some ⟨bh, 2, none⟩), .bool true, .pointer (some ⟨bx, 2, none⟩), .bool true, .bool false, .bool false, .slice (some ⟨w9.heap.size, 0, none⟩) 0 0, .int .i64 (m : Nat), .pointer (some ⟨bh, 0, none⟩), .slice a0 m c0, .int .i64 (m : Nat), .bool false, u61, u62, u63, u64, u65, u66, u67, u68, u69, u70, u71, .int .i64 (j : Nat), .slice la LL.length lc, .int .i64 (LL.length : Nat), .bool false, u76, u77, u78, u79, u80, u81, u82, u83, u84, .slice xa ops.length xc, .int .i64 (ops.length : Nat), .bool false, .bool false, .int .i64 2, .bool true, .bool true, .int .i64 2, .bool false, .bool false, .bool false, .slice (some ⟨wr.heap.size, 0, none⟩) 0 0, .slice xa ops.length xc, .slice va ops.length vac, .pointer (some ⟨bh, 2, none⟩), .bool true, .slice va ops.length vac, .agg #[.int .i64 8, .int .i64 0, .int .i64 0, .int .i64 0], .slice (some ⟨wA.heap.size, 0, none⟩) 1 1, .slice vb (ops.length + 1) vbc, .slice vb (ops.length + 1) vbc, .agg #[.int .i64 6, .int .i64 0, .int .i64 0, .int .i64 0], .agg #[.int .i64 8, .int .i64 0, .int .i64 0, .int .i64 0], .slice (some ⟨wB.heap.size, 0, none⟩) 2 2, .slice ve (ops.length + 1 + 2) vec, .int .i64 2, .slice ve (ops.length + 1 + 2) vec, .agg #[.slice z0 yn f0, .slice z1 yr f1, .bool false, .slice z3 yq f3], vs 0, vs 1, vs 2, vs 3, vs 4, vs 5, vs 6, vs 7, vs 8, vs 9, vs 10, vs 11], defers := [] } : Act); rw [e11], Below.refl _ _, rfl⟩
                case refine_14 =>
                  intro vs lo hi W hB hv _ _
                  have e12 : vs 12 = .bool true := hv 12 (by simp)
                  clear hv hce spL
                  simp only [e12]
                  (try simp only [Exit.then])
                  go_wp2_with fail
                  go_ret
                  exact ⟨rfl, below_on2 BV.out hB⟩
              | false =>
                obtain ⟨p1, p2, p3, p4⟩ := rowSrc (k := 2) [.int .i64 6, .int .i64 0, .int .i64 0, .int .i64 0, .int .i64 8, .int .i64 0, .int .i64 0, .int .i64 0] wAb.out wAo.out hszA rfl
                have p1H : Hid _ := p1
                have p2H : Hid _ := p2
                have p3H : Hid _ := p3
                have hnx3 : Hid (∀ v' w', w'.ownsRow wr.heap.size 27 4 v' (ops.length + 2) ((opsC ops) ++ [.int .i64 6, .int .i64 0, .int .i64 0, .int .i64 0, .int .i64 8, .int .i64 0, .int .i64 0, .int .i64 0]) → (wA.alloc (.cells (List.toArray [.int .i64 6, .int .i64 0, .int .i64 0, .int .i64 0, .int .i64 8, .int .i64 0, .int .i64 0, .int .i64 0]) 27)).grownBy w' (Value.slice va (ops.length) vac).ownBlock → w'.ownsRow wr.heap.size 27 4 v' (ops.length + R.length) (opsC ops ++ opsC R) ∧ Below wr.heap.size wr w') := fun v' w' g1 g2 => ⟨by rw [hRc.out]; simpa [opsC] using g1, p4 w' g2⟩
                clear p1 p2 p3 p4 wAo wAb hszA
                go_upto_region 27 with (refine wpList_append_src rfl (.tmp 105) (.tmp 108) 28 rfl wr.heap.size 27 i8 (.agg #[.int .i64 0, .int .i64 0, .int .i64 0, .int .i64 0]) 4 32 Try.underlying28 hi8 hz8 hs8 hb8 rfl (by omega) _ (ops.length) (opsC ops) rfl p1H.out _ 2 [.int .i64 6, .int .i64 0, .int .i64 0, .int .i64 0, .int .i64 8, .int .i64 0, .int .i64 0, .int .i64 0] rfl p2H.out (by simp [Value.oneCell']) (by have := hlH.out; unfold maxLen; omega) (by have := hlH.out; omega) p3H.out (fun ve wE o2 g2 _ => ?_); have hA := hnx3.out ve wE o2 g2; have wEo : Hid _ := hA.1; have wEb : Hid _ := hA.2; obtain ⟨ve, vec, rfl⟩ := own_slice o2; clear o2 g2 hA)
                have imC : Hid _ := imA2.out wE wr.heap.size _ wEo.out
                have BE : Hid (Below w1.heap.size w1 wE) := below_on2 B1r.out wEb.out
                clear p1H p2H p3H hnx3 wEo wEb imA2 hRc
                go_wp2_with fail
                refine (show Calls _ _ _ _ _ from imC.out).mono ?_
                rintro e w5 ⟨oz, rz, qz, rfl, TI2, hb5⟩
                obtain ⟨z0, f0, z1, f1, z3, f3, rfl, rfl, rfl, hobz, hroz⟩ := TI2
                go_upto_region 28 with fail
                have hbV : Below w5.heap.size w5 (w5.alloc (.cells #[.slice z0 y.os.length f0, .slice z1 y.rs.length f1, .bool false, .slice z3 y.qs.length f3] 34)) := below_1 _ _
                have hzV : (w5.alloc (.cells #[.slice z0 y.os.length f0, .slice z1 y.rs.length f1, .bool false, .slice z3 y.qs.length f3] 34)).heap[w5.heap.size]? = some (.cells #[.slice z0 y.os.length f0, .slice z1 y.rs.length f1, .bool false, .slice z3 y.qs.length f3] 34 (0, 0)) := heap_alloc_new w5 _
                have hsV : w5.heap.size < (w5.alloc (.cells #[.slice z0 y.os.length f0, .slice z1 y.rs.length f1, .bool false, .slice z3 y.qs.length f3] 34)).heap.size := by simp
                generalize w5.alloc (.cells #[.slice z0 y.os.length f0, .slice z1 y.rs.length f1, .bool false, .slice z3 y.qs.length f3] 34) = V at *
                have hce : Hid (∀ W, Below V.heap.size V W → W.cell? ⟨w5.heap.size, 0, none⟩ = some (.slice z0 y.os.length f0) ∧ W.cell? ⟨w5.heap.size, 1, none⟩ = some (.slice z1 y.rs.length f1) ∧ W.cell? ⟨w5.heap.size, 2, none⟩ = some (.bool false) ∧ W.cell? ⟨w5.heap.size, 3, none⟩ = some (.slice z3 y.qs.length f3)) := fun W hW => by
                  have h := (hW.block _ hsV).trans hzV
                  exact ⟨rangeAt_heap h 0 _ rfl, rangeAt_heap h 1 _ rfl, rangeAt_heap h 2 _ rfl, rangeAt_heap h 3 _ rfl⟩
                have spL : Hid (∀ W, Below V.heap.size V W → Calls Try.prog 10 #[.agg #[.slice z0 y.os.length f0, .slice z1 y.rs.length f1, .bool false, .slice z3 y.qs.length f3]] W fun e w' => (∃ a c, e = .returned (.slice a y.os.length c)) ∧ Below W.heap.size W w') := fun W hW => by
                  rw [← hyc.out]
                  exact reached_len (fun Z hZ => (hyf.out Z hZ).1) hys.out.2 hys.out.1 hobz hroz W (below_on2 hbV hW)
                have BV : Hid (Below w1.heap.size w1 V) := below_on2 BE.out (below_on2 hb5 hbV)
                clear hbV hzV hsV hobz hroz hb5 BE imC hyf hyc hys B1r B3r hbhr hi8 hz8 hs8 hb8 O3H X3H hi9 hz9 hs9 hb9 hlH hLl hn497 hge hge2
                generalize y.os.length = yn at *
                generalize y.rs.length = yr at *
                generalize y.qs.length = yq at *
                generalize w5.heap.size = bz at *
                refine wp_region_own (by kernel_rfl) (fun vs => { tmps := #[.slice C len cap, undef, vs 12, .int .i64 2, .slice xa ops.length xc, .pointer (some ⟨bh, 0, none⟩), .slice la LL.length lc, .pointer (some ⟨bx, 0, none⟩), .slice ia m ic, .int .i64 (m : Nat), .int .i64 (j : Nat), .slice ve (ops.length + 2) vec, .pointer (some ⟨bz, 0, none⟩), .slice C len cap, .bool false, .agg #[.int .i64 1, .int .i64 0, .int .i64 0, .int .i64 0], .slice (some ⟨w1.heap.size, 0, none⟩) 1 1, .slice mu 1 mv, .int .i64 1, .bool false, .tuple #[.int .i64 2, .slice xa ops.length xc], .slice C len cap, .tuple #[.int .i64 2, .slice xa ops.length xc], .int .i64 2, .slice xa ops.length xc, .int .i64 2, .slice xa ops.length xc, .agg #[.slice a0 m c0, .slice a1 rn c1, .bool false, .slice a3 qn c3], .agg #[.slice a0 m c0, .slice a1 rn c1, .bool false, .slice a3 qn c3], .slice la LL.length lc, .int .i64 2, .slice xa ops.length xc, .agg #[.slice sa m sc, .slice ra rn rc, .bool false, .slice qa qn qc], .pointer (some ⟨bh, 0, none⟩), .slice a0 m c0, .int .i64 (m : Nat), .pointer (some ⟨bx, 0, none⟩), .slice sa m sc, .int .i64 (m : Nat), .bool false, .bool false, .slice la LL.length lc, .int .i64 (LL.length : Nat), .agg #[.slice sa m sc, .slice ra rn rc, .bool false, .slice qa qn qc], .slice za LL.length zc, .int .i64 (LL.length : Nat), .bool false, .bool false, .bool false, .pointer (some ⟨bh, 2, none⟩), .bool false, .pointer (some ⟨bx, 2, none⟩), .bool false, .bool false, .bool false, .slice (some ⟨w9.heap.size, 0, none⟩) 0 0, .int .i64 (m : Nat), .pointer (some ⟨bh, 0, none⟩), .slice a0 m c0, .int .i64 (m : Nat), .bool false, u61, u62, u63, u64, u65, u66, u67, u68, u69, u70, u71, .int .i64 (j : Nat), .slice la LL.length lc, .int .i64 (LL.length : Nat), .bool false, u76, u77, u78, u79, u80, u81, u82, u83, u84, .slice xa ops.length xc, .int .i64 (ops.length : Nat), .bool false, .bool false, .int .i64 2, .bool true, .bool true, .int .i64 2, .bool false, .bool false, .bool false, .slice (some ⟨wr.heap.size, 0, none⟩) 0 0, .slice xa ops.length xc, .slice va ops.length vac, .pointer (some ⟨bh, 2, none⟩), .bool false, undef, undef, undef, undef, .slice va ops.length vac, .agg #[.int .i64 6, .int .i64 0, .int .i64 0, .int .i64 0], .agg #[.int .i64 8, .int .i64 0, .int .i64 0, .int .i64 0], .slice (some ⟨wA.heap.size, 0, none⟩) 2 2, .slice ve (ops.length + 2) vec, .int .i64 2, .slice ve (ops.length + 2) vec, .agg #[.slice z0 yn f0, .slice z1 yr f1, .bool false, .slice z3 yq f3], vs 0, vs 1, vs 2, vs 3, vs 4, vs 5, vs 6, vs 7, vs 8, vs 9, vs 10, vs 11], defers := [] }) (lvc 4 yn [.pointer (some ⟨bz, 0, none⟩), .slice z0 yn f0, .int .i64 yn, .agg #[.slice z0 yn f0, .slice z1 yr f1, .bool false, .slice z3 yq f3], undef, .int .i64 yn, .bool true, .bool true, .pointer (some ⟨bz, 2, none⟩), .bool false, .bool true, .bool true, .bool true]) (fun i => if i = 12 then u2 else undef) rfl (fun _ _ _ _ _ _ _ _ h => h) (allAt_all ⟨?_, ?_, ?_, ?_, ?_, ?_, ?_, ?_, ?_, ?_, ?_, ?_, ?_, trivial⟩) ?_ (regForward_done (by kernel_rfl))
                case refine_1 =>
                  intro vs lo hi W hB hv
                  clear hv
                  go_wp2
                  exact ⟨.pointer (some ⟨bz, 0, none⟩), by rfl, Below.refl _ _, rfl⟩
                case refine_2 =>
                  intro vs lo hi W hB hv
                  have e0 : vs 0 = .pointer (some ⟨bz, 0, none⟩) := ((hv ⟨0, .data⟩ (by simp) rfl).1)
                  obtain ⟨g0, g1, g2, g3⟩ := hce.out W hB
                  clear hv
                  simp only [e0]
                  go_wp2
                  exact ⟨.slice z0 yn f0, by show _ = ({ tmps := #[.slice C len cap, undef, vs 12, .int .i64 2, .slice xa ops.length xc, .pointer (some ⟨bh, 0, none⟩), .slice la LL.length lc, .pointer (some ⟨bx, 0, none⟩), .slice ia m ic, .int .i64 (m : Nat), .int .i64 (j : Nat), .slice ve (ops.length + 2) vec, .pointer (some ⟨bz, 0, none⟩), .slice C len cap, .bool false, .agg #[.int .i64 1, .int .i64 0, .int .i64 0, .int .i64 0], .slice (some ⟨w1.heap.size, 0, none⟩) 1 1, .slice mu 1 mv, .int .i64 1, .bool false, .tuple #[.int .i64 2, .slice xa ops.length xc], .slice C len cap, .tuple #[.int .i64 2, .slice xa ops.length xc], .int .i64 2, .slice xa ops.length xc, .int .i64 2, .slice xa ops.length xc, .agg #[.slice a0 m c0, .slice a1 rn c1, .bool false, .slice a3 qn c3], .agg #[.slice a0 m c0, .slice a1 rn c1, .bool false, .slice a3 qn c3], .slice la LL.length lc, .int .i64 2, .slice xa ops.length xc, .agg #[.slice sa m sc, .slice ra rn rc, .bool false, .slice qa qn qc], .pointer (some ⟨bh, 0, none⟩), .slice a0 m c0, .int .i64 (m : Nat), .pointer (some ⟨bx, 0, none⟩), .slice sa m sc, .int .i64 (m : Nat), .bool false, .bool false, .slice la LL.length lc, .int .i64 (LL.length : Nat), .agg #[.slice sa m sc, .slice ra rn rc, .bool false, .slice qa qn qc], .slice za LL.length zc, .int .i64 (LL.length : Nat), .bool false, .bool false, .bool false, .pointer (some ⟨bh, 2, none⟩), .bool false, .pointer (some ⟨bx, 2, none⟩), .bool false, .bool false, .bool false, .slice (some ⟨w9.heap.size, 0, none⟩) 0 0, .int .i64 (m : Nat), .pointer (some ⟨bh, 0, none⟩), .slice a0 m c0, .int .i64 (m : Nat), .bool false, u61, u62, u63, u64, u65, u66, u67, u68, u69, u70, u71, .int .i64 (j : Nat), .slice la LL.length lc, .int .i64 (LL.length : Nat), .bool false, u76, u77, u78, u79, u80, u81, u82, u83, u84, .slice xa ops.length xc, .int .i64 (ops.length : Nat), .bool false, .bool false, .int .i64 2, .bool true, .bool true, .int .i64 2, .bool false, .bool false, .bool false, .slice (some ⟨wr.heap.size, 0, none⟩) 0 0, .slice xa ops.length xc, .slice va ops.length vac, .pointer (some ⟨bh, 2, none⟩), .bool false, undef, undef, undef, undef, .slice va ops.length vac, .agg #[.int .i64 6, .int .i64 0, .int .i64 0, .int .i64 0], .agg #[.int .i64 8, .int .i64 0, .int .i64 0, .int .i64 0], .slice (some ⟨wA.heap.size, 0, none⟩) 2 2, .slice ve (ops.length + 2) vec, .int .i64 2, .slice ve (ops.length + 2) vec, .agg #[.slice z0 yn f0, .slice z1 yr f1, .bool false, .slice z3 yq f3], vs 0, .slice z0 yn f0, vs 2, vs 3, vs 4, vs 5, vs 6, vs 7, vs 8, vs 9, vs 10, vs 11], defers := [] } : Act); rw [e0], Below.refl _ _, rfl⟩
                case refine_3 =>
                  intro vs lo hi W hB hv
                  have e1 : vs 1 = .slice z0 yn f0 := ((hv ⟨1, .data⟩ (by simp) rfl).1)
                  clear hv
                  simp only [e1]
                  go_wp2
                  exact ⟨.int .i64 yn, by first | (rw [← e1]; rfl) | (simp [upd, e1]), Below.refl _ _, rfl⟩
                case refine_4 =>
                  intro vs lo hi W hB hv
                  obtain ⟨g0, g1, g2, g3⟩ := hce.out W hB
                  clear hv
                  go_wp2
                  exact ⟨.agg #[.slice z0 yn f0, .slice z1 yr f1, .bool false, .slice z3 yq f3], by rfl, Below.refl _ _, rfl⟩
                case refine_5 =>
                  intro vs lo hi W hB hv
                  have e3 : vs 3 = .agg #[.slice z0 yn f0, .slice z1 yr f1, .bool false, .slice z3 yq f3] := ((hv ⟨3, .data⟩ (by simp) rfl).1)
                  have hq : Hid _ := spL.out W hB
                  clear hv
                  simp only [e3]
                  go_wp2_with (go_at_call 10; refine (show Calls _ _ _ _ _ from hq.out).mono ?_; rintro e W2 ⟨⟨ua, uc, rfl⟩, hB2⟩)
                  exact ⟨.slice ua yn uc, by show _ = ({ tmps := #[.slice C len cap, undef, vs 12, .int .i64 2, .slice xa ops.length xc, .pointer (some ⟨bh, 0, none⟩), .slice la LL.length lc, .pointer (some ⟨bx, 0, none⟩), .slice ia m ic, .int .i64 (m : Nat), .int .i64 (j : Nat), .slice ve (ops.length + 2) vec, .pointer (some ⟨bz, 0, none⟩), .slice C len cap, .bool false, .agg #[.int .i64 1, .int .i64 0, .int .i64 0, .int .i64 0], .slice (some ⟨w1.heap.size, 0, none⟩) 1 1, .slice mu 1 mv, .int .i64 1, .bool false, .tuple #[.int .i64 2, .slice xa ops.length xc], .slice C len cap, .tuple #[.int .i64 2, .slice xa ops.length xc], .int .i64 2, .slice xa ops.length xc, .int .i64 2, .slice xa ops.length xc, .agg #[.slice a0 m c0, .slice a1 rn c1, .bool false, .slice a3 qn c3], .agg #[.slice a0 m c0, .slice a1 rn c1, .bool false, .slice a3 qn c3], .slice la LL.length lc, .int .i64 2, .slice xa ops.length xc, .agg #[.slice sa m sc, .slice ra rn rc, .bool false, .slice qa qn qc], .pointer (some ⟨bh, 0, none⟩), .slice a0 m c0, .int .i64 (m : Nat), .pointer (some ⟨bx, 0, none⟩), .slice sa m sc, .int .i64 (m : Nat), .bool false, .bool false, .slice la LL.length lc, .int .i64 (LL.length : Nat), .agg #[.slice sa m sc, .slice ra rn rc, .bool false, .slice qa qn qc], .slice za LL.length zc, .int .i64 (LL.length : Nat), .bool false, .bool false, .bool false, .pointer (some ⟨bh, 2, none⟩), .bool false, .pointer (some ⟨bx, 2, none⟩), .bool false, .bool false, .bool false, .slice (some ⟨w9.heap.size, 0, none⟩) 0 0, .int .i64 (m : Nat), .pointer (some ⟨bh, 0, none⟩), .slice a0 m c0, .int .i64 (m : Nat), .bool false, u61, u62, u63, u64, u65, u66, u67, u68, u69, u70, u71, .int .i64 (j : Nat), .slice la LL.length lc, .int .i64 (LL.length : Nat), .bool false, u76, u77, u78, u79, u80, u81, u82, u83, u84, .slice xa ops.length xc, .int .i64 (ops.length : Nat), .bool false, .bool false, .int .i64 2, .bool true, .bool true, .int .i64 2, .bool false, .bool false, .bool false, .slice (some ⟨wr.heap.size, 0, none⟩) 0 0, .slice xa ops.length xc, .slice va ops.length vac, .pointer (some ⟨bh, 2, none⟩), .bool false, undef, undef, undef, undef, .slice va ops.length vac, .agg #[.int .i64 6, .int .i64 0, .int .i64 0, .int .i64 0], .agg #[.int .i64 8, .int .i64 0, .int .i64 0, .int .i64 0], .slice (some ⟨wA.heap.size, 0, none⟩) 2 2, .slice ve (ops.length + 2) vec, .int .i64 2, .slice ve (ops.length + 2) vec, .agg #[.slice z0 yn f0, .slice z1 yr f1, .bool false, .slice z3 yq f3], vs 0, vs 1, vs 2, vs 3, .slice ua yn uc, vs 5, vs 6, vs 7, vs 8, vs 9, vs 10, vs 11], defers := [] } : Act); rw [e3], hB2, ⟨_, _, rfl⟩⟩
                case refine_6 =>
                  intro vs lo hi W hB hv
                  obtain ⟨ua, uc, e4⟩ := (show ∃ a c, vs 4 = Value.slice a yn c from (hv ⟨4, .data⟩ (by simp) rfl).1)
                  clear hv
                  simp only [e4]
                  go_wp2
                  exact ⟨.int .i64 yn, by first | (rw [← e4]; rfl) | (simp [upd, e4]), Below.refl _ _, rfl⟩
                case refine_7 =>
                  intro vs lo hi W hB hv
                  have e2 : vs 2 = .int .i64 yn := ((hv ⟨2, .data⟩ (by simp) rfl).1)
                  have e5 : vs 5 = .int .i64 yn := ((hv ⟨5, .data⟩ (by simp) rfl).1)
                  clear hv
                  simp only [e2, e5]
                  go_wp2
                  exact ⟨.bool true, by show _ = ({ tmps := #[.slice C len cap, undef, vs 12, .int .i64 2, .slice xa ops.length xc, .pointer (some ⟨bh, 0, none⟩), .slice la LL.length lc, .pointer (some ⟨bx, 0, none⟩), .slice ia m ic, .int .i64 (m : Nat), .int .i64 (j : Nat), .slice ve (ops.length + 2) vec, .pointer (some ⟨bz, 0, none⟩), .slice C len cap, .bool false, .agg #[.int .i64 1, .int .i64 0, .int .i64 0, .int .i64 0], .slice (some ⟨w1.heap.size, 0, none⟩) 1 1, .slice mu 1 mv, .int .i64 1, .bool false, .tuple #[.int .i64 2, .slice xa ops.length xc], .slice C len cap, .tuple #[.int .i64 2, .slice xa ops.length xc], .int .i64 2, .slice xa ops.length xc, .int .i64 2, .slice xa ops.length xc, .agg #[.slice a0 m c0, .slice a1 rn c1, .bool false, .slice a3 qn c3], .agg #[.slice a0 m c0, .slice a1 rn c1, .bool false, .slice a3 qn c3], .slice la LL.length lc, .int .i64 2, .slice xa ops.length xc, .agg #[.slice sa m sc, .slice ra rn rc, .bool false, .slice qa qn qc], .pointer (some ⟨bh, 0, none⟩), .slice a0 m c0, .int .i64 (m : Nat), .pointer (some ⟨bx, 0, none⟩), .slice sa m sc, .int .i64 (m : Nat), .bool false, .bool false, .slice la LL.length lc, .int .i64 (LL.length : Nat), .agg #[.slice sa m sc, .slice ra rn rc, .bool false, .slice qa qn qc], .slice za LL.length zc, .int .i64 (LL.length : Nat), .bool false, .bool false, .bool false, .pointer (some ⟨bh, 2, none⟩), .bool false, .pointer (some ⟨bx, 2, none⟩), .bool false, .bool false, .bool false, .slice (some ⟨w9.heap.size, 0, none⟩) 0 0, .int .i64 (m : Nat), .pointer (some ⟨bh, 0, none⟩), .slice a0 m c0, .int .i64 (m : Nat), .bool false, u61, u62, u63, u64, u65, u66, u67, u68, u69, u70, u71, .int .i64 (j : Nat), .slice la LL.length lc, .int .i64 (LL.length : Nat), .bool false, u76, u77, u78, u79, u80, u81, u82, u83, u84, .slice xa ops.length xc, .int .i64 (ops.length : Nat), .bool false, .bool false, .int .i64 2, .bool true, .bool true, .int .i64 2, .bool false, .bool false, .bool false, .slice (some ⟨wr.heap.size, 0, none⟩) 0 0, .slice xa ops.length xc, .slice va ops.length vac, .pointer (some ⟨bh, 2, none⟩), .bool false, undef, undef, undef, undef, .slice va ops.length vac, .agg #[.int .i64 6, .int .i64 0, .int .i64 0, .int .i64 0], .agg #[.int .i64 8, .int .i64 0, .int .i64 0, .int .i64 0], .slice (some ⟨wA.heap.size, 0, none⟩) 2 2, .slice ve (ops.length + 2) vec, .int .i64 2, .slice ve (ops.length + 2) vec, .agg #[.slice z0 yn f0, .slice z1 yr f1, .bool false, .slice z3 yq f3], vs 0, vs 1, vs 2, vs 3, vs 4, vs 5, .bool true, vs 7, vs 8, vs 9, vs 10, vs 11], defers := [] } : Act); rw [e2, e5], Below.refl _ _, rfl⟩
                case refine_8 =>
                  intro vs lo hi W hB hv
                  have e6 : vs 6 = .bool true := ((hv ⟨6, .data⟩ (by simp) rfl).1)
                  clear hv
                  simp only [e6]
                  go_wp2
                  exact ⟨.bool true, by show _ = ({ tmps := #[.slice C len cap, undef, vs 12, .int .i64 2, .slice xa ops.length xc, .pointer (some ⟨bh, 0, none⟩), .slice la LL.length lc, .pointer (some ⟨bx, 0, none⟩), .slice ia m ic, .int .i64 (m : Nat), .int .i64 (j : Nat), .slice ve (ops.length + 2) vec, .pointer (some ⟨bz, 0, none⟩), .slice C len cap, .bool false, .agg #[.int .i64 1, .int .i64 0, .int .i64 0, .int .i64 0], .slice (some ⟨w1.heap.size, 0, none⟩) 1 1, .slice mu 1 mv, .int .i64 1, .bool false, .tuple #[.int .i64 2, .slice xa ops.length xc], .slice C len cap, .tuple #[.int .i64 2, .slice xa ops.length xc], .int .i64 2, .slice xa ops.length xc, .int .i64 2, .slice xa ops.length xc, .agg #[.slice a0 m c0, .slice a1 rn c1, .bool false, .slice a3 qn c3], .agg #[.slice a0 m c0, .slice a1 rn c1, .bool false, .slice a3 qn c3], .slice la LL.length lc, .int .i64 2, .slice xa ops.length xc, .agg #[.slice sa m sc, .slice ra rn rc, .bool false, .slice qa qn qc], .pointer (some ⟨bh, 0, none⟩), .slice a0 m c0, .int .i64 (m : Nat), .pointer (some ⟨bx, 0, none⟩), .slice sa m sc, .int .i64 (m : Nat), .bool false, .bool false, .slice la LL.length lc, .int .i64 (LL.length : Nat), .agg #[.slice sa m sc, .slice ra rn rc, .bool false, .slice qa qn qc], .slice za LL.length zc, .int .i64 (LL.length : Nat), .bool false, .bool false, .bool false, .pointer (some ⟨bh, 2, none⟩), .bool false, .pointer (some ⟨bx, 2, none⟩), .bool false, .bool false, .bool false, .slice (some ⟨w9.heap.size, 0, none⟩) 0 0, .int .i64 (m : Nat), .pointer (some ⟨bh, 0, none⟩), .slice a0 m c0, .int .i64 (m : Nat), .bool false, u61, u62, u63, u64, u65, u66, u67, u68, u69, u70, u71, .int .i64 (j : Nat), .slice la LL.length lc, .int .i64 (LL.length : Nat), .bool false, u76, u77, u78, u79, u80, u81, u82, u83, u84, .slice xa ops.length xc, .int .i64 (ops.length : Nat), .bool false, .bool false, .int .i64 2, .bool true, .bool true, .int .i64 2, .bool false, .bool false, .bool false, .slice (some ⟨wr.heap.size, 0, none⟩) 0 0, .slice xa ops.length xc, .slice va ops.length vac, .pointer (some ⟨bh, 2, none⟩), .bool false, undef, undef, undef, undef, .slice va ops.length vac, .agg #[.int .i64 6, .int .i64 0, .int .i64 0, .int .i64 0], .agg #[.int .i64 8, .int .i64 0, .int .i64 0, .int .i64 0], .slice (some ⟨wA.heap.size, 0, none⟩) 2 2, .slice ve (ops.length + 2) vec, .int .i64 2, .slice ve (ops.length + 2) vec, .agg #[.slice z0 yn f0, .slice z1 yr f1, .bool false, .slice z3 yq f3], vs 0, vs 1, vs 2, vs 3, vs 4, vs 5, vs 6, .bool true, vs 8, vs 9, vs 10, vs 11], defers := [] } : Act); rw [e6], Below.refl _ _, rfl⟩
                case refine_9 =>
                  intro vs lo hi W hB hv
                  have e7 : vs 7 = .bool true := ((hv ⟨7, .guard⟩ (by simp) rfl).1)
                  clear hv
                  simp only [e7]
                  go_wp2
                  exact ⟨.pointer (some ⟨bz, 2, none⟩), by show _ = ({ tmps := #[.slice C len cap, undef, vs 12, .int .i64 2, .slice xa ops.length xc, .pointer (some ⟨bh, 0, none⟩), .slice la LL.length lc, .pointer (some ⟨bx, 0, none⟩), .slice ia m ic, .int .i64 (m : Nat), .int .i64 (j : Nat), .slice ve (ops.length + 2) vec, .pointer (some ⟨bz, 0, none⟩), .slice C len cap, .bool false, .agg #[.int .i64 1, .int .i64 0, .int .i64 0, .int .i64 0], .slice (some ⟨w1.heap.size, 0, none⟩) 1 1, .slice mu 1 mv, .int .i64 1, .bool false, .tuple #[.int .i64 2, .slice xa ops.length xc], .slice C len cap, .tuple #[.int .i64 2, .slice xa ops.length xc], .int .i64 2, .slice xa ops.length xc, .int .i64 2, .slice xa ops.length xc, .agg #[.slice a0 m c0, .slice a1 rn c1, .bool false, .slice a3 qn c3], .agg #[.slice a0 m c0, .slice a1 rn c1, .bool false, .slice a3 qn c3], .slice la LL.length lc, .int .i64 2, .slice xa ops.length xc, .agg #[.slice sa m sc, .slice ra rn rc, .bool false, .slice qa qn qc], .pointer (some ⟨bh, 0, none⟩), .slice a0 m c0, .int .i64 (m : Nat), .pointer (some ⟨bx, 0, none⟩), .slice sa m sc, .int .i64 (m : Nat), .bool false, .bool false, .slice la LL.length lc, .int .i64 (LL.length : Nat), .agg #[.slice sa m sc, .slice ra rn rc, .bool false, .slice qa qn qc], .slice za LL.length zc, .int .i64 (LL.length : Nat), .bool false, .bool false, .bool false, .pointer (some ⟨bh, 2, none⟩), .bool false, .pointer (some ⟨bx, 2, none⟩), .bool false, .bool false, .bool false, .slice (some ⟨w9.heap.size, 0, none⟩) 0 0, .int .i64 (m : Nat), .pointer (some ⟨bh, 0, none⟩), .slice a0 m c0, .int .i64 (m : Nat), .bool false, u61, u62, u63, u64, u65, u66, u67, u68, u69, u70, u71, .int .i64 (j : Nat), .slice la LL.length lc, .int .i64 (LL.length : Nat), .bool false, u76, u77, u78, u79, u80, u81, u82, u83, u84, .slice xa ops.length xc, .int .i64 (ops.length : Nat), .bool false, .bool false, .int .i64 2, .bool true, .bool true, .int .i64 2, .bool false, .bool false, .bool false, .slice (some ⟨wr.heap.size, 0, none⟩) 0 0, .slice xa ops.length xc, .slice va ops.length vac, .pointer (some ⟨bh, 2, none⟩), .bool false, undef, undef, undef, undef, .slice va ops.length vac, .agg #[.int .i64 6, .int .i64 0, .int .i64 0, .int .i64 0], .agg #[.int .i64 8, .int .i64 0, .int .i64 0, .int .i64 0], .slice (some ⟨wA.heap.size, 0, none⟩) 2 2, .slice ve (ops.length + 2) vec, .int .i64 2, .slice ve (ops.length + 2) vec, .agg #[.slice z0 yn f0, .slice z1 yr f1, .bool false, .slice z3 yq f3], vs 0, vs 1, vs 2, vs 3, vs 4, vs 5, vs 6, vs 7, .pointer (some ⟨bz, 2, none⟩), vs 9, vs 10, vs 11], defers := [] } : Act); rw [e7], Below.refl _ _, rfl⟩
                case refine_10 =>
                  intro vs lo hi W hB hv
                  have e8 : vs 8 = .pointer (some ⟨bz, 2, none⟩) := ((hv ⟨8, .data⟩ (by simp) rfl).1)
                  have e7 : vs 7 = .bool true := ((hv ⟨7, .guard⟩ (by simp) rfl).1)
                  obtain ⟨g0, g1, g2, g3⟩ := hce.out W hB
                  clear hv
                  simp only [e8, e7]
                  go_wp2
                  exact ⟨.bool false, by show _ = ({ tmps := #[.slice C len cap, undef, vs 12, .int .i64 2, .slice xa ops.length xc, .pointer (some ⟨bh, 0, none⟩), .slice la LL.length lc, .pointer (some ⟨bx, 0, none⟩), .slice ia m ic, .int .i64 (m : Nat), .int .i64 (j : Nat), .slice ve (ops.length + 2) vec, .pointer (some ⟨bz, 0, none⟩), .slice C len cap, .bool false, .agg #[.int .i64 1, .int .i64 0, .int .i64 0, .int .i64 0], .slice (some ⟨w1.heap.size, 0, none⟩) 1 1, .slice mu 1 mv, .int .i64 1, .bool false, .tuple #[.int .i64 2, .slice xa ops.length xc], .slice C len cap, .tuple #[.int .i64 2, .slice xa ops.length xc], .int .i64 2, .slice xa ops.length xc, .int .i64 2, .slice xa ops.length xc, .agg #[.slice a0 m c0, .slice a1 rn c1, .bool false, .slice a3 qn c3], .agg #[.slice a0 m c0, .slice a1 rn c1, .bool false, .slice a3 qn c3], .slice la LL.length lc, .int .i64 2, .slice xa ops.length xc, .agg #[.slice sa m sc, .slice ra rn rc, .bool false, .slice qa qn qc], .pointer (some ⟨bh, 0, none⟩), .slice a0 m c0, .int .i64 (m : Nat), .pointer (some ⟨bx, 0, none⟩), .slice sa m sc, .int .i64 (m : Nat), .bool false, .bool false, .slice la LL.length lc, .int .i64 (LL.length : Nat), .agg #[.slice sa m sc, .slice ra rn rc, .bool false, .slice qa qn qc], .slice za LL.length zc, .int .i64 (LL.length : Nat), .bool false, .bool false, .bool false, .pointer (some ⟨bh, 2, none⟩), .bool false, .pointer (some ⟨bx, 2, none⟩), .bool false, .bool false, .bool false, .slice (some ⟨w9.heap.size, 0, none⟩) 0 0, .int .i64 (m : Nat), .pointer (some ⟨bh, 0, none⟩), .slice a0 m c0, .int .i64 (m : Nat), .bool false, u61, u62, u63, u64, u65, u66, u67, u68, u69, u70, u71, .int .i64 (j : Nat), .slice la LL.length lc, .int .i64 (LL.length : Nat), .bool false, u76, u77, u78, u79, u80, u81, u82, u83, u84, .slice xa ops.length xc, .int .i64 (ops.length : Nat), .bool false, .bool false, .int .i64 2, .bool true, .bool true, .int .i64 2, .bool false, .bool false, .bool false, .slice (some ⟨wr.heap.size, 0, none⟩) 0 0, .slice xa ops.length xc, .slice va ops.length vac, .pointer (some ⟨bh, 2, none⟩), .bool false, undef, undef, undef, undef, .slice va ops.length vac, .agg #[.int .i64 6, .int .i64 0, .int .i64 0, .int .i64 0], .agg #[.int .i64 8, .int .i64 0, .int .i64 0, .int .i64 0], .slice (some ⟨wA.heap.size, 0, none⟩) 2 2, .slice ve (ops.length + 2) vec, .int .i64 2, .slice ve (ops.length + 2) vec, .agg #[.slice z0 yn f0, .slice z1 yr f1, .bool false, .slice z3 yq f3], vs 0, vs 1, vs 2, vs 3, vs 4, vs 5, vs 6, vs 7, vs 8, .bool false, vs 10, vs 11], defers := [] } : Act); rw [e8, e7], Below.refl _ _, rfl⟩
                case refine_11 =>
                  intro vs lo hi W hB hv
                  have e9 : vs 9 = .bool false := ((hv ⟨9, .data⟩ (by simp) rfl).1)
                  have e7 : vs 7 = .bool true := ((hv ⟨7, .guard⟩ (by simp) rfl).1)
                  clear hv
                  simp only [e9, e7]
                  go_wp2
                  exact ⟨.bool true, by show _ = ({ tmps := #[.slice C len cap, undef, vs 12, .int .i64 2, .slice xa ops.length xc, .pointer (some ⟨bh, 0, none⟩), .slice la LL.length lc, .pointer (some ⟨bx, 0, none⟩), .slice ia m ic, .int .i64 (m : Nat), .int .i64 (j : Nat), .slice ve (ops.length + 2) vec, .pointer (some ⟨bz, 0, none⟩), .slice C len cap, .bool false, .agg #[.int .i64 1, .int .i64 0, .int .i64 0, .int .i64 0], .slice (some ⟨w1.heap.size, 0, none⟩) 1 1, .slice mu 1 mv, .int .i64 1, .bool false, .tuple #[.int .i64 2, .slice xa ops.length xc], .slice C len cap, .tuple #[.int .i64 2, .slice xa ops.length xc], .int .i64 2, .slice xa ops.length xc, .int .i64 2, .slice xa ops.length xc, .agg #[.slice a0 m c0, .slice a1 rn c1, .bool false, .slice a3 qn c3], .agg #[.slice a0 m c0, .slice a1 rn c1, .bool false, .slice a3 qn c3], .slice la LL.length lc, .int .i64 2, .slice xa ops.length xc, .agg #[.slice sa m sc, .slice ra rn rc, .bool false, .slice qa qn qc], .pointer (some ⟨bh, 0, none⟩), .slice a0 m c0, .int .i64 (m : Nat), .pointer (some ⟨bx, 0, none⟩), .slice sa m sc, .int .i64 (m : Nat), .bool false, .bool false, .slice la LL.length lc, .int .i64 (LL.length : Nat), .agg #[.slice sa m sc, .slice ra rn rc, .bool false, .slice qa qn qc], .slice za LL.length zc, .int .i64 (LL.length : Nat), .bool false, .bool false, .bool false, .pointer (some ⟨bh, 2, none⟩), .bool false, .pointer (some ⟨bx, 2, none⟩), .bool false, .bool false, .bool false, .slice (some ⟨w9.heap.size, 0, none⟩) 0 0, .int .i64 (m : Nat), .pointer (some ⟨bh, 0, none⟩), .slice a0 m c0, .int .i64 (m : Nat), .bool false, u61, u62, u63, u64, u65, u66, u67, u68, u69, u70, u71, .int .i64 (j : Nat), .slice la LL.length lc, .int .i64 (LL.length : Nat), .bool false, u76, u77, u78, u79, u80, u81, u82, u83, u84, .slice xa ops.length xc, .int .i64 (ops.length : Nat), .bool false, .bool false, .int .i64 2, .bool true, .bool true, .int .i64 2, .bool false, .bool false, .bool false, .slice (some ⟨wr.heap.size, 0, none⟩) 0 0, .slice xa ops.length xc, .slice va ops.length vac, .pointer (some ⟨bh, 2, none⟩), .bool false, undef, undef, undef, undef, .slice va ops.length vac, .agg #[.int .i64 6, .int .i64 0, .int .i64 0, .int .i64 0], .agg #[.int .i64 8, .int .i64 0, .int .i64 0, .int .i64 0], .slice (some ⟨wA.heap.size, 0, none⟩) 2 2, .slice ve (ops.length + 2) vec, .int .i64 2, .slice ve (ops.length + 2) vec, .agg #[.slice z0 yn f0, .slice z1 yr f1, .bool false, .slice z3 yq f3], vs 0, vs 1, vs 2, vs 3, vs 4, vs 5, vs 6, vs 7, vs 8, vs 9, .bool true, vs 11], defers := [] } : Act); rw [e9, e7], Below.refl _ _, rfl⟩
                case refine_12 =>
                  intro vs lo hi W hB hv
                  have e7 : vs 7 = .bool true := ((hv ⟨7, .data⟩ (by simp) rfl).1)
                  have e10 : vs 10 = .bool true := ((hv ⟨10, .data⟩ (by simp) rfl).1)
                  clear hv
                  simp only [e7, e10]
                  go_wp2
                  exact ⟨.bool true, by show _ = ({ tmps := #[.slice C len cap, undef, vs 12, .int .i64 2, .slice xa ops.length xc, .pointer (some ⟨bh, 0, none⟩), .slice la LL.length lc, .pointer (some ⟨bx, 0, none⟩), .slice ia m ic, .int .i64 (m : Nat), .int .i64 (j : Nat), .slice ve (ops.length + 2) vec, .pointer (some ⟨bz, 0, none⟩), .slice C len cap, .bool false, .agg #[.int .i64 1, .int .i64 0, .int .i64 0, .int .i64 0], .slice (some ⟨w1.heap.size, 0, none⟩) 1 1, .slice mu 1 mv, .int .i64 1, .bool false, .tuple #[.int .i64 2, .slice xa ops.length xc], .slice C len cap, .tuple #[.int .i64 2, .slice xa ops.length xc], .int .i64 2, .slice xa ops.length xc, .int .i64 2, .slice xa ops.length xc, .agg #[.slice a0 m c0, .slice a1 rn c1, .bool false, .slice a3 qn c3], .agg #[.slice a0 m c0, .slice a1 rn c1, .bool false, .slice a3 qn c3], .slice la LL.length lc, .int .i64 2, .slice xa ops.length xc, .agg #[.slice sa m sc, .slice ra rn rc, .bool false, .slice qa qn qc], .pointer (some ⟨bh, 0, none⟩), .slice a0 m c0, .int .i64 (m : Nat), .pointer (some ⟨bx, 0, none⟩), .slice sa m sc, .int .i64 (m : Nat), .bool false, .bool false, .slice la LL.length lc, .int .i64 (LL.length : Nat), .agg #[.slice sa m sc, .slice ra rn rc, .bool false, .slice qa qn qc], .slice za LL.length zc, .int .i64 (LL.length : Nat), .bool false, .bool false, .bool false, .pointer (some ⟨bh, 2, none⟩), .bool false, .pointer (some ⟨bx, 2, none⟩), .bool false, .bool false, .bool false, .slice (some ⟨w9.heap.size, 0, none⟩) 0 0, .int .i64 (m : Nat), .pointer (some ⟨bh, 0, none⟩), .slice a0 m c0, .int .i64 (m : Nat), .bool false, u61, u62, u63, u64, u65, u66, u67, u68, u69, u70, u71, .int .i64 (j : Nat), .slice la LL.length lc, .int .i64 (LL.length : Nat), .bool false, u76, u77, u78, u79, u80, u81, u82, u83, u84, .slice xa ops.length xc, .int .i64 (ops.length : Nat), .bool false, .bool false, .int .i64 2, .bool true, .bool true, .int .i64 2, .bool false, .bool false, .bool false, .slice (some ⟨wr.heap.size, 0, none⟩) 0 0, .slice xa ops.length xc, .slice va ops.length vac, .pointer (some ⟨bh, 2, none⟩), .bool false, undef, undef, undef, undef, .slice va ops.length vac, .agg #[.int .i64 6, .int .i64 0, .int .i64 0, .int .i64 0], .agg #[.int .i64 8, .int .i64 0, .int .i64 0, .int .i64 0], .slice (some ⟨wA.heap.size, 0, none⟩) 2 2, .slice ve (ops.length + 2) vec, .int .i64 2, .slice ve (ops.length + 2) vec, .agg #[.slice z0 yn f0, .slice z1 yr f1, .bool false, .slice z3 yq f3], vs 0, vs 1, vs 2, vs 3, vs 4, vs 5, vs 6, vs 7, vs 8, vs 9, vs 10, .bool true], defers := [] } : Act); rw [e7, e10], Below.refl _ _, rfl⟩
                case refine_13 =>
                  intro vs lo hi W hB hv
                  have e11 : vs 11 = .bool true := ((hv ⟨11, .data⟩ (by simp) rfl).1)
                  clear hv
                  simp only [e11]
                  go_wp2
                  exact ⟨.bool true, by show _ = ({ tmps := #[.slice C len cap, undef, .bool true, .int .i64 2, .slice xa ops.length xc, .pointer (some ⟨bh, 0, none⟩), .slice la LL.length lc, .pointer (some ⟨bx, 0, none⟩), .slice ia m ic, .int .i64 (m : Nat), .int .i64 (j : Nat), .slice ve (ops.length + 2) vec, .pointer (some ⟨bz, 0, none⟩), .slice C len cap, .bool false, .agg #[.int .i64 1, .int .i64 0, .int .i64 0, .int .i64 0], .slice (some ⟨w1.heap.size, 0, none⟩) 1 1, .slice mu 1 mv, .int .i64 1, .bool false, .tuple #[.int .i64 2, .slice xa ops.length xc], .slice C len cap, .tuple #[.int .i64 2, .slice xa ops.length xc], .int .i64 2, .slice xa ops.length xc, .int .i64 2, .slice xa ops.length xc, .agg #[.slice a0 m c0, .slice a1 rn c1, .bool false, .slice a3 qn c3], .agg #[.slice a0 m c0, .slice a1 rn c1, .bool false, .slice a3 qn c3], .slice la LL.length lc, .int .i64 2, .slice xa ops.length xc, .agg #[.slice sa m sc, .slice ra rn rc, .bool false, .slice qa qn qc], .pointer (some ⟨bh, 0, none⟩), .slice a0 m c0, .int .i64 (m : Nat), .pointer (some ⟨bx, 0, none⟩), .slice sa m sc, .int .i64 (m : Nat), .bool false, .bool false, .slice la LL.length lc, .int .i64 (LL.length : Nat), .agg #[.slice sa m sc, .slice ra rn rc, .bool false, .slice qa qn qc], .slice za LL.length zc, .int .i64 (LL.length : Nat), .bool false, .bool false, .bool false, .pointer (some ⟨bh, 2, none⟩), .bool false, .pointer (some ⟨bx, 2, none⟩), .bool false, .bool false, .bool false, .slice (some ⟨w9.heap.size, 0, none⟩) 0 0, .int .i64 (m : Nat), .pointer (some ⟨bh, 0, none⟩), .slice a0 m c0, .int .i64 (m : Nat), .bool false, u61, u62, u63, u64, u65, u66, u67, u68, u69, u70, u71, .int .i64 (j : Nat), .slice la LL.length lc, .int .i64 (LL.length : Nat), .bool false, u76, u77, u78, u79, u80, u81, u82, u83, u84, .slice xa ops.length xc, .int .i64 (ops.length : Nat), .bool false, .bool false, .int .i64 2, .bool true, .bool true, .int .i64 2, .bool false, .bool false, .bool false, .slice (some ⟨wr.heap.size, 0, none⟩) 0 0, .slice xa ops.length xc, .slice va ops.length vac, .pointer (some ⟨bh, 2, none⟩), .bool false, undef, undef, undef, undef, .slice va ops.length vac, .agg #[.int .i64 6, .int .i64 0, .int .i64 0, .int .i64 0], .agg #[.int .i64 8, .int .i64 0, .int .i64 0, .int .i64 0], .slice (some ⟨wA.heap.size, 0, none⟩) 2 2, .slice ve (ops.length + 2) vec, .int .i64 2, .slice ve (ops.length + 2) vec, .agg #[.slice z0 yn f0, .slice z1 yr f1, .bool false, .slice z3 yq f3], vs 0, vs 1, vs 2, vs 3, vs 4, vs 5, vs 6, vs 7, vs 8, vs 9, vs 10, vs 11], defers := [] } : Act); rw [e11], Below.refl _ _, rfl⟩
                case refine_14 =>
                  intro vs lo hi W hB hv _ _
                  have e12 : vs 12 = .bool true := hv 12 (by simp)
                  clear hv hce spL
                  simp only [e12]
                  (try simp only [Exit.then])
                  go_wp2_with fail
                  go_ret
                  exact ⟨rfl, below_on2 BV.out hB⟩
          · have hd1 : (mode != 1) = true := by have : ¬ mode = 1 := fun q => hmode (.inl q); simp [this]
            have hd2 : (mode != 2) = true := by have : ¬ mode = 2 := fun q => hmode (.inr q); simp [this]
            have hd : (mode != 1 && mode != 2) = true := by rw [hd1, hd2]; rfl
            clear hmode
            go_wp2
            go_ret
            exact ⟨rfl, B1r.out⟩
end Go.Proofs.Ytchcdlelaklnnaa
