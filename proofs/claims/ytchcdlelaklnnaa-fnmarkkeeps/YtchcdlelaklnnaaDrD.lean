/- spec.DrawMarkRun: some mode, some ops. -/
import Derived.Test.YtchcdlelaklnnaaDrC
namespace Go.Proofs.Ytchcdlelaklnnaa
set_option linter.unusedVariables false
open Go.ChangeShapes Go.WideShapes Go.ChangeAt Go.RowKit

theorem fourteen {W w' : World} {p : Nat} {cs : Array Value} {t : TypeId} (ho : Only p (W.alloc (.cells cs t)) w') (hp : p < W.heap.size) (hn : cs.size = 14) (hi : ∀ j (h : j < cs.size), ∃ v : Int, cs[j] = .int .i64 v) (r : Int) (h0 : 0 ≤ r) (h1 : r < 14) : ∃ v : Int, w'.cell? ⟨W.heap.size, r.toNat, none⟩ = some (.int .i64 v) := by
  have hj : r.toNat < cs.size := by omega
  obtain ⟨v, hv⟩ := hi _ hj
  refine ⟨v, ?_⟩
  rw [ho.cell (by simp) (by omega), World.cell?_alloc_new]
  simp [hj, hv]
set_option maxRecDepth 100000 in
set_option maxHeartbeats 4000000 in
theorem draw_calls (C : Option Addr) (len cap p : Nat) (w0 w : World) (h : Cur C len cap p w0 w) :
    Calls Try.prog 31 #[.pointer (some ⟨p, 0, none⟩)] w fun e w' => ∃ (mode : Int) (u : Value) (ops : List OpM), e = .returned (.tuple #[.int .i64 mode, u]) ∧ w'.ownsRow w0.heap.size 27 4 u ops.length (opsC ops) ∧ ops.length ≤ 125 ∧ Below w0.heap.size w0 w' := by
  obtain ⟨i8, hi8, hz8, hs8, hb8⟩ := info_parts (show (Try.prog.info? 27).map (fun i => (i.zero, i.size, i.bytes)) = some (some (.agg #[.int .i64 0, .int .i64 0, .int .i64 0, .int .i64 0]), 4, 32) by kernel_rfl)
  have hsz0 := h.bel.size
  have hS0 : Hid (DrS C len cap p w0 (w.alloc (.cells #[] 27)) (.slice (some ⟨w.heap.size, 0, none⟩) 0 0) []) := by
    have h1 : (w.alloc (.cells #[] 27)).ownsRow w.heap.size 27 4 (.slice (some ⟨w.heap.size, 0, none⟩) 0 0) 0 [] := World.ownsRow_made w #[] 0 (Nat.le_refl _) (by unfold maxLen; omega) rfl
    exact ⟨h.alloc _, own_mono h1 hsz0, fun k hk => by simp only [Value.ownBlock, Option.some.injEq] at hk; have := h.lt; omega⟩
  clear h hsz0
  go_enter Try.func31, Try.ntmps31
  go_wp2_with fail
  refine (hS0.out.draw 120 (by decide)).mono ?_
  rintro e w1 ⟨x, hx0, hx1, rfl, hS, -⟩
  have hS1 : Hid _ := hS
  clear hS hS0
  obtain ⟨k, rfl⟩ : ∃ k : Nat, x = k := ⟨x.toNat, by omega⟩
  have hk : k < 120 := by omega
  clear hx0 hx1
  go_wp2_with fail
  go_loopw [4, 5] (fun ov nv wr => ∃ m : Nat, m ≤ 125 ∧ nv = .int .i64 m ∧ ∃ a c n, ov = .slice a n c ∧ Hid (∃ ops : List OpM, n = ops.length ∧ ops.length + m ≤ 125 ∧ DrS C len cap p w0 wr (.slice a n c) ops)) (fun _ nv _ => (intOf nv).toNat)
  case atStart => exact ⟨5 + k, by omega, by go_num, _, _, _, rfl, [], rfl, by simp; omega, hS1.out⟩
  case round =>
    clear hS1 hk
    obtain ⟨m, hm, rfl, a, c, n, rfl, hrel⟩ := hrel
    obtain ⟨ops, rfl, hl0, hS0⟩ := hrel.out
    have hl : Hid (ops.length + m ≤ 125) := hl0
    have hS : Hid _ := hS0
    clear hrel hl0 hS0
    have hm0 : (0 : Int) ≤ m := by omega
    by_cases hlt : 0 < m
    · have hlt' : (0 : Int) < (m : Int) := by omega
      go_wp2_with fail
      have hp := hS.out.cur.lt
      refine ((hS.out.alloc _).draw 14 (by decide)).mono ?_
      rintro e w2 ⟨x, hx0, hx1, rfl, hS2, ho2⟩
      obtain ⟨kd, hkd⟩ := fourteen ho2 hp rfl (by intro j hj; have hj : j < 14 := hj; match j, hj with | 0, _ => exact ⟨_, rfl⟩ | 1, _ => exact ⟨_, rfl⟩ | 2, _ => exact ⟨_, rfl⟩ | 3, _ => exact ⟨_, rfl⟩ | 4, _ => exact ⟨_, rfl⟩ | 5, _ => exact ⟨_, rfl⟩ | 6, _ => exact ⟨_, rfl⟩ | 7, _ => exact ⟨_, rfl⟩ | 8, _ => exact ⟨_, rfl⟩ | 9, _ => exact ⟨_, rfl⟩ | 10, _ => exact ⟨_, rfl⟩ | 11, _ => exact ⟨_, rfl⟩ | 12, _ => exact ⟨_, rfl⟩ | 13, _ => exact ⟨_, rfl⟩) x hx0 hx1
      have hS2H : Hid _ := hS2
      clear hS hS2 ho2 hp
      go_wp2_with fail
      refine (hS2H.out.draw 4 (by decide)).mono ?_
      rintro e w3 ⟨x3, -, -, rfl, hS3, -⟩
      have hS3H : Hid _ := hS3
      clear hS3 hS2H
      go_wp2_with fail
      refine (hS3H.out.draw 4 (by decide)).mono ?_
      rintro e w4 ⟨x4, -, -, rfl, hS4, -⟩
      have hS4H : Hid _ := hS4
      clear hS4 hS3H
      go_wp2_with fail
      refine (hS4H.out.draw 2 (by decide)).mono ?_
      rintro e w5 ⟨x5, -, -, rfl, hS5, -⟩
      have hT5 : Hid (DrT C len cap p w0 (w5.alloc (.cells #[.int .i64 kd, .int .i64 x3, .int .i64 x4, .int .i64 x5] 27)) (.slice a ops.length c) ops w5.heap.size ⟨kd, x3, x4, x5⟩) := hS5.box ⟨kd, x3, x4, x5⟩
      clear hS5 hS4H
      go_wp2_with fail
      generalize w5.alloc (.cells #[.int .i64 kd, .int .i64 x3, .int .i64 x4, .int .i64 x5] 27) = W5 at *
      generalize w5.heap.size = bx at *
      refine (hT5.out.once 40 (by decide)).mono ?_
      rintro e w6 ⟨b6, rfl, hT6⟩
      have hT6H : Hid _ := hT6
      clear hT6 hT5
      have hfin : Hid (∀ (W : World) (o : OpM), DrT C len cap p w0 W (.slice a ops.length c) ops bx o → W.heap[bx]? = some (.cells #[.int .i64 o.kind, .int .i64 o.a, .int .i64 o.b, .int .i64 o.c] 27 (0, 0)) ∧ (W.alloc (.cells #[.int .i64 o.kind, .int .i64 o.a, .int .i64 o.b, .int .i64 o.c] 27)).ownsRow w0.heap.size 27 4 (.slice a ops.length c) ops.length (opsC ops) ∧ SrcAt (W.alloc (.cells #[.int .i64 o.kind, .int .i64 o.a, .int .i64 o.b, .int .i64 o.c] 27)) 4 (.slice (some ⟨W.heap.size, 0, none⟩) 1 1) 1 [.int .i64 o.kind, .int .i64 o.a, .int .i64 o.b, .int .i64 o.c] ∧ w0.heap.size ≤ (W.alloc (.cells #[.int .i64 o.kind, .int .i64 o.a, .int .i64 o.b, .int .i64 o.c] 27)).heap.size) := fun W o hT => by
        refine ⟨hT.blk, own_kept hT.s.row fun k hk => Below.heap_alloc _ _ _ (World.ownsRow.lt hT.s.row k hk).2, .inr ⟨⟨W.heap.size, 0, none⟩, 1, rfl, rfl, fun j u hj => ?_⟩, ?_⟩
        · rw [Addr.add_lit]
          exact (rangeAt_heap (heap_alloc_new W (.cells #[.int .i64 o.kind, .int .i64 o.a, .int .i64 o.b, .int .i64 o.c] 27))) j u hj
        · have := hT.s.cur.bel.size
          rw [World.size_alloc]
          omega
      have hnx : Hid (∀ (W W' : World) (o : OpM) (ov' : Value), DrT C len cap p w0 W (.slice a ops.length c) ops bx o → W'.ownsRow w0.heap.size 27 4 ov' (ops.length + 1) (opsC ops ++ [.int .i64 o.kind, .int .i64 o.a, .int .i64 o.b, .int .i64 o.c]) → (W.alloc (.cells #[.int .i64 o.kind, .int .i64 o.a, .int .i64 o.b, .int .i64 o.c] 27)).grownBy W' (Value.slice a ops.length c).ownBlock → (ov'.ownBlock = (Value.slice a ops.length c).ownBlock ∨ ov'.ownBlock = some (W.alloc (.cells #[.int .i64 o.kind, .int .i64 o.a, .int .i64 o.b, .int .i64 o.c] 27)).heap.size) → ∃ ops2 : List OpM, ops.length + 1 = ops2.length ∧ ops2.length + (m - 1) ≤ 125 ∧ DrS C len cap p w0 W' ov' ops2) := fun W W' o ov' hT z1 z2 z3 => ⟨ops ++ [o], by simp, by have := hl.out; simp; omega, hT.push z1 z2 z3⟩
      have hln : Hid (ops.length ≤ 125) := by have := hl.out; show _ ≤ _; omega
      obtain ⟨sn, hsn⟩ : ∃ sn, sn = ops.length := ⟨_, rfl⟩
      rw [← hsn] at hfin hnx hln hT6H ⊢
      have hlnI : (sn : Int) ≤ 125 := by have := hln.out; omega
      clear hl hsn
      generalize opsC ops = cs0 at *
      cases b6 with
      | false =>
        obtain ⟨q1, q2, q3, q4⟩ := hfin.out w6 ⟨kd, x3, x4, x5⟩ hT6H.out
        have q2H : Hid _ := q2
        have q3H : Hid _ := q3
        have q4H : Hid _ := q4
        have hTH : Hid _ := hT6H.out
        clear q2 q3 q4 hT6H hfin
        go_wp2_with (first
          | (refine wpList_load_row rfl 27 _ rfl bx rfl 27 _ _ _ q1 Try.underlying27 rfl (by kernel_rfl) ?_)
          | (refine wpList_append_src rfl (.tmp 44) (.tmp 46) 28 rfl w0.heap.size 27 i8 (.agg #[.int .i64 0, .int .i64 0, .int .i64 0, .int .i64 0]) 4 32 Try.underlying28 hi8 hz8 hs8 hb8 rfl (by omega) _ sn cs0 rfl q2H.out _ 1 [.int .i64 kd, .int .i64 x3, .int .i64 x4, .int .i64 x5] rfl q3H.out (by simp [Value.oneCell']) (by have := hln.out; unfold maxLen; omega) (by have := hln.out; omega) q4H.out (fun ov' W7 hown hgrow hat => ?_); have g5 := hnx.out w6 W7 ⟨kd, x3, x4, x5⟩ ov' hTH.out hown hgrow hat; have g5H : Hid _ := g5; obtain ⟨a', c', rfl⟩ := own_slice hown; clear hown hgrow hat g5))
        go_roundw
        case rel => exact ⟨m - 1, by omega, by first | go_num | (congr 1; omega), _, _, _, rfl, g5H.out⟩
        case measure => simp [intOf]; omega
      | true =>
        go_wp2_with fail
        refine (hT6H.out.draw 10 (by decide)).mono ?_
        rintro e w7 ⟨y7, -, -, rfl, hT7⟩
        have hT7H : Hid _ := hT7
        clear hT7 hT6H
        go_wp2_with fail
        refine (hT7H.out.draw 10 (by decide)).mono ?_
        rintro e w8 ⟨y8, -, -, rfl, hT8⟩
        have hT8H : Hid _ := hT8
        clear hT8 hT7H
        go_wp2_with fail
        refine (hT8H.out.draw 10 (by decide)).mono ?_
        rintro e w9 ⟨y9, -, -, rfl, hT9⟩
        have hT9H : Hid _ := hT9
        clear hT9 hT8H
        go_wp2_with fail
        refine (hT9H.out.draw 5 (by decide)).mono ?_
        rintro e w10 ⟨y10, -, -, rfl, hT10⟩
        have hT10H : Hid _ := hT10
        clear hT10 hT9H
        have hb10 : w10.heap[bx]? = _ := hT10H.out.blk
        have hT11 : Hid (DrT C len cap p w0 (w10.setRow bx #[.int .i64 y7, .int .i64 (wrap64 (y8 - 1)), .int .i64 (wrap64 (y9 - 1)), .int .i64 (wrap64 (y10 - 1))]) (.slice a sn c) ops bx ⟨y7, wrap64 (y8 - 1), wrap64 (y9 - 1), wrap64 (y10 - 1)⟩) := hT10H.out.set ⟨y7, wrap64 (y8 - 1), wrap64 (y9 - 1), wrap64 (y10 - 1)⟩
        clear hT10H
        go_upto_region 9 with (refine wpList_store_row rfl 27 _ _ rfl bx #[.int .i64 y7, .int .i64 (wrap64 (y8 - 1)), .int .i64 (wrap64 (y9 - 1)), .int .i64 (wrap64 (y10 - 1))] rfl rfl 27 _ hb10 (by kernel_rfl) rfl (all_oneCell_toArray (cs := [.int .i64 y7, .int .i64 (wrap64 (y8 - 1)), .int .i64 (wrap64 (y9 - 1)), .int .i64 (wrap64 (y10 - 1))]) (by simp [Value.oneCell'])) ?_)
        clear hb10
        generalize w10.setRow bx #[.int .i64 y7, .int .i64 (wrap64 (y8 - 1)), .int .i64 (wrap64 (y9 - 1)), .int .i64 (wrap64 (y10 - 1))] = W11 at *
        obtain ⟨q1, q2, q3, q4⟩ := hfin.out W11 ⟨y7, wrap64 (y8 - 1), wrap64 (y9 - 1), wrap64 (y10 - 1)⟩ hT11.out
        have q2H : Hid _ := q2
        have q3H : Hid _ := q3
        have q4H : Hid _ := q4
        have hTH : Hid _ := hT11.out
        clear q2 q3 q4 hT11 hfin
        go_wp2_with (first
          | (refine wpList_load_row rfl 27 _ rfl bx rfl 27 _ _ _ q1 Try.underlying27 rfl (by kernel_rfl) ?_)
          | (refine wpList_append_src rfl (.tmp 44) (.tmp 46) 28 rfl w0.heap.size 27 i8 (.agg #[.int .i64 0, .int .i64 0, .int .i64 0, .int .i64 0]) 4 32 Try.underlying28 hi8 hz8 hs8 hb8 rfl (by omega) _ sn cs0 rfl q2H.out _ 1 [.int .i64 y7, .int .i64 (wrap64 (y8 - 1)), .int .i64 (wrap64 (y9 - 1)), .int .i64 (wrap64 (y10 - 1))] rfl q3H.out (by simp [Value.oneCell']) (by have := hln.out; unfold maxLen; omega) (by have := hln.out; omega) q4H.out (fun ov' W7 hown hgrow hat => ?_); have g5 := hnx.out W11 W7 ⟨y7, wrap64 (y8 - 1), wrap64 (y9 - 1), wrap64 (y10 - 1)⟩ ov' hTH.out hown hgrow hat; have g5H : Hid _ := g5; obtain ⟨a', c', rfl⟩ := own_slice hown; clear hown hgrow hat g5))
        go_roundw
        case rel => exact ⟨m - 1, by omega, by first | go_num | (congr 1; omega), _, _, _, rfl, g5H.out⟩
        case measure => simp [intOf]; omega
    · have hm00 : m = 0 := by omega
      subst hm00
      clear hlt
      have hl2 : Hid (ops.length ≤ 125) := by have := hl.out; show _ ≤ _; omega
      clear hl
      go_wp2_with fail
      refine (hS.out.draw 2 (by decide)).mono ?_
      rintro e w2 ⟨x, -, -, rfl, hS2, -⟩
      have hS2H : Hid _ := hS2
      clear hS2 hS
      go_wp2_with fail
      refine (hS2H.out.once 40 (by decide)).mono ?_
      rintro e w3 ⟨b, rfl, hS3, -⟩
      have hS3H : Hid _ := hS3
      clear hS3 hS2H
      cases b with
      | false =>
        go_wp2
        go_ret2
        exact ⟨_, _, ops, rfl, hS3H.out.row, hl2.out, hS3H.out.cur.bel⟩
      | true =>
        go_wp2
        go_ret2
        exact ⟨_, _, ops, rfl, hS3H.out.row, hl2.out, hS3H.out.cur.bel⟩
set_option maxRecDepth 100000 in
theorem drawRun_calls (C : Option Addr) (len cap : Nat) (w : World) (hc : Code C len w) :
    Calls Try.prog 16 #[.slice C len cap] w fun e w' => ∃ (mode : Int) (u : Value) (ops : List OpM), e = .returned (.tuple #[.int .i64 mode, u]) ∧ ListAt MopR 4 false w.heap.size w'.heap.size w' u ops ∧ ops.length ≤ 125 ∧ Below w.heap.size w w' ∧ ∃ a c, u = .slice a ops.length c ∧ ops.length ≤ c ∧ w'.ownsRow w.heap.size 27 4 (.slice a ops.length c) ops.length (opsC ops) := by
  have hn := new_calls C len cap w hc
  go_enter Try.func16, Try.ntmps16
  go_wp2_with (first
    | (go_at_call 30; refine hn.mono ?_; rintro e w' ⟨rfl, hcur⟩; clear hn)
    | (go_at_call 31; refine (draw_calls C len cap _ w _ (by assumption)).mono ?_; rintro e w2 ⟨mode, u, ops, rfl, hr, hl, hb⟩; have hrH : Hid _ := hr; have hlH : Hid _ := hl; have hbH : Hid _ := hb; clear hr hl hb hcur))
  go_ret2
  obtain ⟨a, c, e⟩ := own_slice hrH.out
  exact ⟨_, _, ops, rfl, ops_list hrH.out rfl, hlH.out, hbH.out, a, c, e, by have := hrH.out; rw [e] at this; exact own_cap this, by have := hrH.out; rwa [e] at this⟩
end Go.Proofs.Ytchcdlelaklnnaa
