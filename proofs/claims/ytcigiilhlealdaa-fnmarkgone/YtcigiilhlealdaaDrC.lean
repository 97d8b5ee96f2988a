/- Ops that are drawn. -/
import Derived.Test.YtcigiilhlealdaaDrN
import Derived.Test.YtcigiilhlealdaaKsC
import Derived.Test.YtcigiilhlealdaaMrA
namespace Go.Proofs.Ytcigiilhlealdaa
set_option linter.unusedVariables false
open Go.ChangeShapes Go.WideShapes Go.ChangeAt Go.RowKit

theorem once_calls (C : Option Addr) (len cap p : Nat) (w0 w : World) (n : Int) (h1 : 0 < n) (h : Cur C len cap p w0 w) :
    Calls Try.prog 50 #[.pointer (some ⟨p, 0, none⟩), .int .i64 n] w fun e w' => ∃ b : Bool, e = .returned (.bool b) ∧ Cur C len cap p w0 w' ∧ Only p w w' := by
  have hb := below_calls C len cap p w0 w n h1 h
  clear h
  go_enter Try.func50, Try.ntmps50
  go_wp2_with (go_at_call 49; refine hb.mono ?_; rintro e w' ⟨x, hx0, hx1, rfl, hc, ho⟩)
  go_ret
  exact ⟨_, rfl, by assumption, by assumption⟩
/-- The cells of ops. -/
def opsC (ops : List OpM) : List Value := ops.flatMap fun o => [.int .i64 o.kind, .int .i64 o.a, .int .i64 o.b, .int .i64 o.c]
theorem opsC_length : ∀ ops : List OpM, (opsC ops).length = ops.length * 4
  | [] => rfl
  | o :: ops => by
    have := opsC_length ops
    show ([_, _, _, _] ++ opsC ops).length = (ops.length + 1) * 4
    rw [List.length_append, this]
    simp only [List.length_cons, List.length_nil]
    omega
theorem opsC_snoc (ops : List OpM) (o : OpM) : opsC (ops ++ [o]) = opsC ops ++ [.int .i64 o.kind, .int .i64 o.a, .int .i64 o.b, .int .i64 o.c] := by simp [opsC]
theorem opsC_get : ∀ (ops : List OpM) (j : Nat) (hj : j < ops.length) (i : Nat) (u : Value), [Value.int .i64 ops[j].kind, .int .i64 ops[j].a, .int .i64 ops[j].b, .int .i64 ops[j].c][i]? = some u → (opsC ops)[j * 4 + i]? = some u
  | o :: ops, 0, _, i, u, h => by
    rw [Nat.zero_mul, Nat.zero_add]
    have h : [Value.int .i64 o.kind, .int .i64 o.a, .int .i64 o.b, .int .i64 o.c][i]? = some u := h
    show ([_, _, _, _] ++ opsC ops)[i]? = _
    rw [List.getElem?_append_left (List.getElem?_eq_some_iff.1 h).1]
    exact h
  | o :: ops, j + 1, hj, i, u, h => by
    have := opsC_get ops j (by simpa using hj) i u h
    show ([_, _, _, _] ++ opsC ops)[(j + 1) * 4 + i]? = _
    rw [List.getElem?_append_right (by simp; omega)]
    rw [show (j + 1) * 4 + i - [Value.int .i64 o.kind, .int .i64 o.a, .int .i64 o.b, .int .i64 o.c].length = j * 4 + i by simp; omega]
    exact this
theorem ops_list {w : World} {B n : Nat} {v : Value} {ops : List OpM} (h : w.ownsRow B 27 4 v n (opsC ops)) (hn : n = ops.length) : ListAt MopR 4 false B w.heap.size w v ops := by
  subst hn
  by_cases h0 : ops.length = 0
  · have : ops = [] := List.eq_nil_of_length_eq_zero h0
    subst this
    obtain ⟨a, c, e⟩ := own_slice h
    exact .inl ⟨rfl, rfl, a, c, e⟩
  · obtain ⟨g, c, e⟩ := own_some h (by omega)
    have hl := World.ownsRow.lt h g (by rw [e]; rfl)
    rw [e] at h
    refine .inr ⟨g, 0, c, e, hl.1, hl.2, (fun q => by simp at q), fun j hj => ⟨[.int .i64 ops[j].kind, .int .i64 ops[j].a, .int .i64 ops[j].b, .int .i64 ops[j].c], rfl, fun i u hu => ?_, rfl, (fun q => by simp at q)⟩⟩
    have hc := opsC_get ops j hj i u hu
    have hil : j * 4 + i < (opsC ops).length := (List.getElem?_eq_some_iff.1 hc).1
    rw [show 0 + j * 4 + i = j * 4 + i by omega, World.ownsRow.cellAt h (j * 4 + i) (by rw [opsC_length] at hil; exact hil)]
    exact hc
/-- Where the drawing of ops stands. -/
structure DrS (C : Option Addr) (len cap p : Nat) (w0 w : World) (ov : Value) (ops : List OpM) : Prop where
  cur : Cur C len cap p w0 w
  row : w.ownsRow w0.heap.size 27 4 ov ops.length (opsC ops)
  ne : ∀ k, ov.ownBlock = some k → k ≠ p
theorem DrS.alloc {C : Option Addr} {len cap p : Nat} {w0 w : World} {ov : Value} {ops : List OpM} (h : DrS C len cap p w0 w ov ops) (o : Obj) : DrS C len cap p w0 (w.alloc o) ov ops :=
  ⟨h.cur.alloc o, own_kept h.row fun k hk => Below.heap_alloc _ _ _ (World.ownsRow.lt h.row k hk).2, h.ne⟩
theorem DrS.only {C : Option Addr} {len cap p : Nat} {w0 w w' : World} {ov : Value} {ops : List OpM} (h : DrS C len cap p w0 w ov ops) (hc : Cur C len cap p w0 w') (ho : Only p w w') : DrS C len cap p w0 w' ov ops :=
  ⟨hc, own_kept h.row fun k hk => ho.2 k (World.ownsRow.lt h.row k hk).2 (h.ne k hk), h.ne⟩
theorem DrS.draw {C : Option Addr} {len cap p : Nat} {w0 w : World} {ov : Value} {ops : List OpM} (h : DrS C len cap p w0 w ov ops) (n : Int) (hn : 0 < n) :
    Calls Try.prog 49 #[.pointer (some ⟨p, 0, none⟩), .int .i64 n] w fun e w' => ∃ x : Int, 0 ≤ x ∧ x < n ∧ e = .returned (.int .i64 x) ∧ DrS C len cap p w0 w' ov ops ∧ Only p w w' :=
  (below_calls C len cap p w0 w n hn h.cur).mono fun e w' ⟨x, a, b, c, d, f⟩ => ⟨x, a, b, c, h.only d f, f⟩
theorem DrS.once {C : Option Addr} {len cap p : Nat} {w0 w : World} {ov : Value} {ops : List OpM} (h : DrS C len cap p w0 w ov ops) (n : Int) (hn : 0 < n) :
    Calls Try.prog 50 #[.pointer (some ⟨p, 0, none⟩), .int .i64 n] w fun e w' => ∃ b : Bool, e = .returned (.bool b) ∧ DrS C len cap p w0 w' ov ops ∧ Only p w w' :=
  (once_calls C len cap p w0 w n hn h.cur).mono fun e w' ⟨x, c, d, f⟩ => ⟨x, c, h.only d f, f⟩
theorem Cur.keep {C : Option Addr} {len cap p : Nat} {w0 w w' : World} (h : Cur C len cap p w0 w) (hp : w'.heap[p]? = w.heap[p]?) (hb : Below w0.heap.size w0 w') : Cur C len cap p w0 w' := by
  have hc : ∀ i, w'.cell? ⟨p, i, none⟩ = w.cell? ⟨p, i, none⟩ := fun i => World.cell?_of_block (w := w) hp
  have hf : ∀ i, w'.frozen? ⟨p, i, none⟩ = w.frozen? ⟨p, i, none⟩ := fun i => World.frozen?_of_block (w := w) hp
  obtain ⟨k, s, hk, c0, c1, c2⟩ := h.row
  exact ⟨h.code, hb, h.new, ⟨k, s, hk, by rw [hc]; exact c0, by rw [hc]; exact c1, by rw [hc]; exact c2⟩, by rw [hf]; exact h.f1, by rw [hf]; exact h.f2⟩
/-- With an op in a box of its own. -/
structure DrT (C : Option Addr) (len cap p : Nat) (w0 w : World) (ov : Value) (ops : List OpM) (bx : Nat) (o : OpM) : Prop where
  s : DrS C len cap p w0 w ov ops
  blk : w.heap[bx]? = some (.cells #[.int .i64 o.kind, .int .i64 o.a, .int .i64 o.b, .int .i64 o.c] 27 (0, 0))
  ge : w0.heap.size ≤ bx
  np : bx ≠ p
  no : ov.ownBlock ≠ some bx
theorem DrT.only {C : Option Addr} {len cap p : Nat} {w0 w w' : World} {ov : Value} {ops : List OpM} {bx : Nat} {o : OpM} (h : DrT C len cap p w0 w ov ops bx o) (hs : DrS C len cap p w0 w' ov ops) (ho : Only p w w') : DrT C len cap p w0 w' ov ops bx o :=
  ⟨hs, (ho.2 bx (lt_of h.blk) h.np).trans h.blk, h.ge, h.np, h.no⟩
theorem DrT.draw {C : Option Addr} {len cap p : Nat} {w0 w : World} {ov : Value} {ops : List OpM} {bx : Nat} {o : OpM} (h : DrT C len cap p w0 w ov ops bx o) (n : Int) (hn : 0 < n) :
    Calls Try.prog 49 #[.pointer (some ⟨p, 0, none⟩), .int .i64 n] w fun e w' => ∃ x : Int, 0 ≤ x ∧ x < n ∧ e = .returned (.int .i64 x) ∧ DrT C len cap p w0 w' ov ops bx o :=
  (h.s.draw n hn).mono fun e w' ⟨x, a, b, c, d, f⟩ => ⟨x, a, b, c, h.only d f⟩
theorem DrT.once {C : Option Addr} {len cap p : Nat} {w0 w : World} {ov : Value} {ops : List OpM} {bx : Nat} {o : OpM} (h : DrT C len cap p w0 w ov ops bx o) (n : Int) (hn : 0 < n) :
    Calls Try.prog 50 #[.pointer (some ⟨p, 0, none⟩), .int .i64 n] w fun e w' => ∃ b : Bool, e = .returned (.bool b) ∧ DrT C len cap p w0 w' ov ops bx o :=
  (h.s.once n hn).mono fun e w' ⟨x, c, d, f⟩ => ⟨x, c, h.only d f⟩
theorem DrS.box {C : Option Addr} {len cap p : Nat} {w0 w : World} {ov : Value} {ops : List OpM} (h : DrS C len cap p w0 w ov ops) (o : OpM) : DrT C len cap p w0 (w.alloc (.cells #[.int .i64 o.kind, .int .i64 o.a, .int .i64 o.b, .int .i64 o.c] 27)) ov ops w.heap.size o :=
  ⟨h.alloc _, heap_alloc_new w _, h.cur.bel.size, fun e => by have := h.cur.lt; omega, fun e => by have := (World.ownsRow.lt h.row _ e).2; omega⟩
theorem DrT.set {C : Option Addr} {len cap p : Nat} {w0 w : World} {ov : Value} {ops : List OpM} {bx : Nat} {o : OpM} (h : DrT C len cap p w0 w ov ops bx o) (o' : OpM) : DrT C len cap p w0 (w.setRow bx #[.int .i64 o'.kind, .int .i64 o'.a, .int .i64 o'.b, .int .i64 o'.c]) ov ops bx o' :=
  ⟨⟨h.s.cur.keep (setRow_other _ _ _ _ (Ne.symm h.np)) ⟨h.s.cur.bel.os, h.s.cur.bel.tape, h.s.cur.bel.output, by rw [setRow_size]; exact h.s.cur.bel.size, fun k hk => (setRow_other _ _ _ _ (by have := h.ge; omega)).trans (h.s.cur.bel.block k hk)⟩, own_kept h.s.row fun k hk => setRow_other _ _ _ _ (fun e => h.no (by rw [hk, e])), h.s.ne⟩, setRow_heap _ _ _ _ _ _ h.blk, h.ge, h.np, h.no⟩
theorem DrT.push {C : Option Addr} {len cap p : Nat} {w0 w w' : World} {ov ov' : Value} {ops : List OpM} {bx : Nat} {o : OpM} {ob : Obj} (h : DrT C len cap p w0 w ov ops bx o)
    (hr : w'.ownsRow w0.heap.size 27 4 ov' (ops.length + 1) (opsC ops ++ [.int .i64 o.kind, .int .i64 o.a, .int .i64 o.b, .int .i64 o.c])) (hg : (w.alloc ob).grownBy w' ov.ownBlock) (ha : ov'.ownBlock = ov.ownBlock ∨ ov'.ownBlock = some (w.alloc ob).heap.size) : DrS C len cap p w0 w' ov' (ops ++ [o]) := by
  have hs : (w.alloc ob).heap.size = w.heap.size + 1 := World.size_alloc _ _
  have hl := h.s.cur.lt
  have hB := (h.s.cur.bel.alloc h.s.cur.bel.size ob).grown hg (by have := h.s.cur.bel.size; omega) (fun j hj => (World.ownsRow.lt h.s.row j hj).1)
  refine ⟨h.s.cur.keep ?_ hB, ?_, fun k hk => ?_⟩
  · rw [hg.block p (by omega) (fun e => h.s.ne p e.symm rfl)]
    exact Below.heap_alloc _ _ _ hl
  · rw [List.length_append, opsC_snoc]
    exact hr
  · rcases ha with e | e
    · exact h.s.ne k (by rw [← e]; exact hk)
    · rw [e] at hk
      injection hk with hk
      omega
end Go.Proofs.Ytcigiilhlealdaa

/- spec.DrawMarkRun: some mode, some ops. -/
namespace Go.Proofs.Ytcigiilhlealdaa
set_option linter.unusedVariables false
open Go.ChangeShapes Go.WideShapes Go.ChangeAt Go.RowKit

theorem fourteen {W w' : World} {p : Nat} {cs : Array Value} {t : TypeId} (ho : Only p (W.alloc (.cells cs t)) w') (hp : p < W.heap.size) (hn : cs.size = 14) (hi : ∀ j (h : j < cs.size), ∃ v : Int, cs[j] = .int .i64 v) (r : Int) (h0 : 0 ≤ r) (h1 : r < 14) : ∃ v : Int, w'.cell? ⟨W.heap.size, r.toNat, none⟩ = some (.int .i64 v) := by
  have hj : r.toNat < cs.size := by omega
  obtain ⟨v, hv⟩ := hi _ hj
  refine ⟨v, ?_⟩
  rw [ho.cell (by simp) (by omega), World.cell?_alloc_new]
  simp [hj, hv]
set_option maxRecDepth 100000 in
set_option maxHeartbeats 4000000 in
theorem draw_calls (C : Option Addr) (len cap p : Nat) (w0 w : World) (h : Cur C len cap p w0 w) :
    Calls Try.prog 29 #[.pointer (some ⟨p, 0, none⟩)] w fun e w' => ∃ (mode : Int) (u : Value) (ops : List OpM), e = .returned (.tuple #[.int .i64 mode, u]) ∧ w'.ownsRow w0.heap.size 27 4 u ops.length (opsC ops) ∧ ops.length ≤ 125 ∧ Below w0.heap.size w0 w' := by
  obtain ⟨i8, hi8, hz8, hs8, hb8⟩ := info_parts (show (Try.prog.info? 27).map (fun i => (i.zero, i.size, i.bytes)) = some (some (.agg #[.int .i64 0, .int .i64 0, .int .i64 0, .int .i64 0]), 4, 32) by kernel_rfl)
  have hsz0 := h.bel.size
  have hS0 : Hid (DrS C len cap p w0 (w.alloc (.cells #[] 27)) (.slice (some ⟨w.heap.size, 0, none⟩) 0 0) []) := by
    have h1 : (w.alloc (.cells #[] 27)).ownsRow w.heap.size 27 4 (.slice (some ⟨w.heap.size, 0, none⟩) 0 0) 0 [] := World.ownsRow_made w #[] 0 (Nat.le_refl _) (by unfold maxLen; omega) rfl
    exact ⟨h.alloc _, own_mono h1 hsz0, fun k hk => by simp only [Value.ownBlock, Option.some.injEq] at hk; have := h.lt; omega⟩
  clear h hsz0
  go_enter Try.func29, Try.ntmps29
  go_wp2_with fail
  refine (hS0.out.draw 120 (by decide)).mono ?_
  rintro e w1 ⟨x, hx0, hx1, rfl, hS, -⟩
  have hS1 : Hid _ := hS
  clear hS hS0
  obtain ⟨k, rfl⟩ : ∃ k : Nat, x = k := ⟨x.toNat, by omega⟩
  have hk : k < 120 := by omega
  clear hx0 hx1
  go_wp2_with fail
  go_loopw [4, 5] (fun ov nv wr => ∃ m : Nat, m ≤ 125 ∧ nv = .int .i64 m ∧ ∃ a c n, ov = .slice a n c ∧ Hid (∃ ops : List OpM, n = ops.length ∧ ops.length + m ≤ 125 ∧ DrS C len cap p w0 wr (.slice a n c) ops)) (fun _ nv _ => (intOf nv).toNat)
  case atStart => exact ⟨5 + k, by omega, by go_num, _, _, _, rfl, [], rfl, by simp; omega, hS1.out⟩
  case round =>
    clear hS1 hk
    obtain ⟨m, hm, rfl, a, c, n, rfl, hrel⟩ := hrel
    obtain ⟨ops, rfl, hl0, hS0⟩ := hrel.out
    have hl : Hid (ops.length + m ≤ 125) := hl0
    have hS : Hid _ := hS0
    clear hrel hl0 hS0
    have hm0 : (0 : Int) ≤ m := by omega
    by_cases hlt : 0 < m
    · have hlt' : (0 : Int) < (m : Int) := by omega
      go_wp2_with fail
      have hp := hS.out.cur.lt
      refine ((hS.out.alloc _).draw 14 (by decide)).mono ?_
      rintro e w2 ⟨x, hx0, hx1, rfl, hS2, ho2⟩
      obtain ⟨kd, hkd⟩ := fourteen ho2 hp rfl (by intro j hj; have hj : j < 14 := hj; match j, hj with | 0, _ => exact ⟨_, rfl⟩ | 1, _ => exact ⟨_, rfl⟩ | 2, _ => exact ⟨_, rfl⟩ | 3, _ => exact ⟨_, rfl⟩ | 4, _ => exact ⟨_, rfl⟩ | 5, _ => exact ⟨_, rfl⟩ | 6, _ => exact ⟨_, rfl⟩ | 7, _ => exact ⟨_, rfl⟩ | 8, _ => exact ⟨_, rfl⟩ | 9, _ => exact ⟨_, rfl⟩ | 10, _ => exact ⟨_, rfl⟩ | 11, _ => exact ⟨_, rfl⟩ | 12, _ => exact ⟨_, rfl⟩ | 13, _ => exact ⟨_, rfl⟩) x hx0 hx1
      have hS2H : Hid _ := hS2
      clear hS hS2 ho2 hp
      go_wp2_with fail
      refine (hS2H.out.draw 4 (by decide)).mono ?_
      rintro e w3 ⟨x3, -, -, rfl, hS3, -⟩
      have hS3H : Hid _ := hS3
      clear hS3 hS2H
      go_wp2_with fail
      refine (hS3H.out.draw 4 (by decide)).mono ?_
      rintro e w4 ⟨x4, -, -, rfl, hS4, -⟩
      have hS4H : Hid _ := hS4
      clear hS4 hS3H
      go_wp2_with fail
      refine (hS4H.out.draw 2 (by decide)).mono ?_
      rintro e w5 ⟨x5, -, -, rfl, hS5, -⟩
      have hT5 : Hid (DrT C len cap p w0 (w5.alloc (.cells #[.int .i64 kd, .int .i64 x3, .int .i64 x4, .int .i64 x5] 27)) (.slice a ops.length c) ops w5.heap.size ⟨kd, x3, x4, x5⟩) := hS5.box ⟨kd, x3, x4, x5⟩
      clear hS5 hS4H
      go_wp2_with fail
      generalize w5.alloc (.cells #[.int .i64 kd, .int .i64 x3, .int .i64 x4, .int .i64 x5] 27) = W5 at *
      generalize w5.heap.size = bx at *
      refine (hT5.out.once 40 (by decide)).mono ?_
      rintro e w6 ⟨b6, rfl, hT6⟩
      have hT6H : Hid _ := hT6
      clear hT6 hT5
      have hfin : Hid (∀ (W : World) (o : OpM), DrT C len cap p w0 W (.slice a ops.length c) ops bx o → W.heap[bx]? = some (.cells #[.int .i64 o.kind, .int .i64 o.a, .int .i64 o.b, .int .i64 o.c] 27 (0, 0)) ∧ (W.alloc (.cells #[.int .i64 o.kind, .int .i64 o.a, .int .i64 o.b, .int .i64 o.c] 27)).ownsRow w0.heap.size 27 4 (.slice a ops.length c) ops.length (opsC ops) ∧ SrcAt (W.alloc (.cells #[.int .i64 o.kind, .int .i64 o.a, .int .i64 o.b, .int .i64 o.c] 27)) 4 (.slice (some ⟨W.heap.size, 0, none⟩) 1 1) 1 [.int .i64 o.kind, .int .i64 o.a, .int .i64 o.b, .int .i64 o.c] ∧ w0.heap.size ≤ (W.alloc (.cells #[.int .i64 o.kind, .int .i64 o.a, .int .i64 o.b, .int .i64 o.c] 27)).heap.size) := fun W o hT => by
        refine ⟨hT.blk, own_kept hT.s.row fun k hk => Below.heap_alloc _ _ _ (World.ownsRow.lt hT.s.row k hk).2, .inr ⟨⟨W.heap.size, 0, none⟩, 1, rfl, rfl, fun j u hj => ?_⟩, ?_⟩
        · rw [Addr.add_lit]
          exact (rangeAt_heap (heap_alloc_new W (.cells #[.int .i64 o.kind, .int .i64 o.a, .int .i64 o.b, .int .i64 o.c] 27))) j u hj
        · have := hT.s.cur.bel.size
          rw [World.size_alloc]
          omega
      have hnx : Hid (∀ (W W' : World) (o : OpM) (ov' : Value), DrT C len cap p w0 W (.slice a ops.length c) ops bx o → W'.ownsRow w0.heap.size 27 4 ov' (ops.length + 1) (opsC ops ++ [.int .i64 o.kind, .int .i64 o.a, .int .i64 o.b, .int .i64 o.c]) → (W.alloc (.cells #[.int .i64 o.kind, .int .i64 o.a, .int .i64 o.b, .int .i64 o.c] 27)).grownBy W' (Value.slice a ops.length c).ownBlock → (ov'.ownBlock = (Value.slice a ops.length c).ownBlock ∨ ov'.ownBlock = some (W.alloc (.cells #[.int .i64 o.kind, .int .i64 o.a, .int .i64 o.b, .int .i64 o.c] 27)).heap.size) → ∃ ops2 : List OpM, ops.length + 1 = ops2.length ∧ ops2.length + (m - 1) ≤ 125 ∧ DrS C len cap p w0 W' ov' ops2) := fun W W' o ov' hT z1 z2 z3 => ⟨ops ++ [o], by simp, by have := hl.out; simp; omega, hT.push z1 z2 z3⟩
      have hln : Hid (ops.length ≤ 125) := by have := hl.out; show _ ≤ _; omega
      obtain ⟨sn, hsn⟩ : ∃ sn, sn = ops.length := ⟨_, rfl⟩
      rw [← hsn] at hfin hnx hln hT6H ⊢
      have hlnI : (sn : Int) ≤ 125 := by have := hln.out; omega
      clear hl hsn
      generalize opsC ops = cs0 at *
      cases b6 with
      | false =>
        obtain ⟨q1, q2, q3, q4⟩ := hfin.out w6 ⟨kd, x3, x4, x5⟩ hT6H.out
        have q2H : Hid _ := q2
        have q3H : Hid _ := q3
        have q4H : Hid _ := q4
        have hTH : Hid _ := hT6H.out
        clear q2 q3 q4 hT6H hfin
        go_wp2_with (first
          | (refine wpList_load_row rfl 27 _ rfl bx rfl 27 _ _ _ q1 Try.underlying27 rfl (by kernel_rfl) ?_)
          | (refine wpList_append_src rfl (.tmp 44) (.tmp 46) 28 rfl w0.heap.size 27 i8 (.agg #[.int .i64 0, .int .i64 0, .int .i64 0, .int .i64 0]) 4 32 Try.underlying28 hi8 hz8 hs8 hb8 rfl (by omega) _ sn cs0 rfl q2H.out _ 1 [.int .i64 kd, .int .i64 x3, .int .i64 x4, .int .i64 x5] rfl q3H.out (by simp [Value.oneCell']) (by have := hln.out; unfold maxLen; omega) (by have := hln.out; omega) q4H.out (fun ov' W7 hown hgrow hat => ?_); have g5 := hnx.out w6 W7 ⟨kd, x3, x4, x5⟩ ov' hTH.out hown hgrow hat; have g5H : Hid _ := g5; obtain ⟨a', c', rfl⟩ := own_slice hown; clear hown hgrow hat g5))
        go_roundw
        case rel => exact ⟨m - 1, by omega, by first | go_num | (congr 1; omega), _, _, _, rfl, g5H.out⟩
        case measure => simp [intOf]; omega
      | true =>
        go_wp2_with fail
        refine (hT6H.out.draw 10 (by decide)).mono ?_
        rintro e w7 ⟨y7, -, -, rfl, hT7⟩
        have hT7H : Hid _ := hT7
        clear hT7 hT6H
        go_wp2_with fail
        refine (hT7H.out.draw 10 (by decide)).mono ?_
        rintro e w8 ⟨y8, -, -, rfl, hT8⟩
        have hT8H : Hid _ := hT8
        clear hT8 hT7H
        go_wp2_with fail
        refine (hT8H.out.draw 10 (by decide)).mono ?_
        rintro e w9 ⟨y9, -, -, rfl, hT9⟩
        have hT9H : Hid _ := hT9
        clear hT9 hT8H
        go_wp2_with fail
        refine (hT9H.out.draw 5 (by decide)).mono ?_
        rintro e w10 ⟨y10, -, -, rfl, hT10⟩
        have hT10H : Hid _ := hT10
        clear hT10 hT9H
        have hb10 : w10.heap[bx]? = _ := hT10H.out.blk
        have hT11 : Hid (DrT C len cap p w0 (w10.setRow bx #[.int .i64 y7, .int .i64 (wrap64 (y8 - 1)), .int .i64 (wrap64 (y9 - 1)), .int .i64 (wrap64 (y10 - 1))]) (.slice a sn c) ops bx ⟨y7, wrap64 (y8 - 1), wrap64 (y9 - 1), wrap64 (y10 - 1)⟩) := hT10H.out.set ⟨y7, wrap64 (y8 - 1), wrap64 (y9 - 1), wrap64 (y10 - 1)⟩
        clear hT10H
        go_upto_region 9 with (refine wpList_store_row rfl 27 _ _ rfl bx #[.int .i64 y7, .int .i64 (wrap64 (y8 - 1)), .int .i64 (wrap64 (y9 - 1)), .int .i64 (wrap64 (y10 - 1))] rfl rfl 27 _ hb10 (by kernel_rfl) rfl (all_oneCell_toArray (cs := [.int .i64 y7, .int .i64 (wrap64 (y8 - 1)), .int .i64 (wrap64 (y9 - 1)), .int .i64 (wrap64 (y10 - 1))]) (by simp [Value.oneCell'])) ?_)
        clear hb10
        generalize w10.setRow bx #[.int .i64 y7, .int .i64 (wrap64 (y8 - 1)), .int .i64 (wrap64 (y9 - 1)), .int .i64 (wrap64 (y10 - 1))] = W11 at *
        obtain ⟨q1, q2, q3, q4⟩ := hfin.out W11 ⟨y7, wrap64 (y8 - 1), wrap64 (y9 - 1), wrap64 (y10 - 1)⟩ hT11.out
        have q2H : Hid _ := q2
        have q3H : Hid _ := q3
        have q4H : Hid _ := q4
        have hTH : Hid _ := hT11.out
        clear q2 q3 q4 hT11 hfin
        go_wp2_with (first
          | (refine wpList_load_row rfl 27 _ rfl bx rfl 27 _ _ _ q1 Try.underlying27 rfl (by kernel_rfl) ?_)
          | (refine wpList_append_src rfl (.tmp 44) (.tmp 46) 28 rfl w0.heap.size 27 i8 (.agg #[.int .i64 0, .int .i64 0, .int .i64 0, .int .i64 0]) 4 32 Try.underlying28 hi8 hz8 hs8 hb8 rfl (by omega) _ sn cs0 rfl q2H.out _ 1 [.int .i64 y7, .int .i64 (wrap64 (y8 - 1)), .int .i64 (wrap64 (y9 - 1)), .int .i64 (wrap64 (y10 - 1))] rfl q3H.out (by simp [Value.oneCell']) (by have := hln.out; unfold maxLen; omega) (by have := hln.out; omega) q4H.out (fun ov' W7 hown hgrow hat => ?_); have g5 := hnx.out W11 W7 ⟨y7, wrap64 (y8 - 1), wrap64 (y9 - 1), wrap64 (y10 - 1)⟩ ov' hTH.out hown hgrow hat; have g5H : Hid _ := g5; obtain ⟨a', c', rfl⟩ := own_slice hown; clear hown hgrow hat g5))
        go_roundw
        case rel => exact ⟨m - 1, by omega, by first | go_num | (congr 1; omega), _, _, _, rfl, g5H.out⟩
        case measure => simp [intOf]; omega
    · have hm00 : m = 0 := by omega
      subst hm00
      clear hlt
      have hl2 : Hid (ops.length ≤ 125) := by have := hl.out; show _ ≤ _; omega
      clear hl
      go_wp2_with fail
      refine (hS.out.draw 2 (by decide)).mono ?_
      rintro e w2 ⟨x, -, -, rfl, hS2, -⟩
      have hS2H : Hid _ := hS2
      clear hS2 hS
      go_wp2_with fail
      refine (hS2H.out.once 40 (by decide)).mono ?_
      rintro e w3 ⟨b, rfl, hS3, -⟩
      have hS3H : Hid _ := hS3
      clear hS3 hS2H
      cases b with
      | false =>
        go_wp2
        go_ret2
        exact ⟨_, _, ops, rfl, hS3H.out.row, hl2.out, hS3H.out.cur.bel⟩
      | true =>
        go_wp2
        go_ret2
        exact ⟨_, _, ops, rfl, hS3H.out.row, hl2.out, hS3H.out.cur.bel⟩
set_option maxRecDepth 100000 in
theorem drawRun_calls (C : Option Addr) (len cap : Nat) (w : World) (hc : Code C len w) :
    Calls Try.prog 8 #[.slice C len cap] w fun e w' => ∃ (mode : Int) (u : Value) (ops : List OpM), e = .returned (.tuple #[.int .i64 mode, u]) ∧ ListAt MopR 4 false w.heap.size w'.heap.size w' u ops ∧ ops.length ≤ 125 ∧ Below w.heap.size w w' ∧ ∃ a c, u = .slice a ops.length c ∧ ops.length ≤ c := by
  have hn := new_calls C len cap w hc
  go_enter Try.func8, Try.ntmps8
  go_wp2_with (first
    | (go_at_call 28; refine hn.mono ?_; rintro e w' ⟨rfl, hcur⟩; clear hn)
    | (go_at_call 29; refine (draw_calls C len cap _ w _ (by assumption)).mono ?_; rintro e w2 ⟨mode, u, ops, rfl, hr, hl, hb⟩; have hrH : Hid _ := hr; have hlH : Hid _ := hl; have hbH : Hid _ := hb; clear hr hl hb hcur))
  go_ret2
  obtain ⟨a, c, e⟩ := own_slice hrH.out
  exact ⟨_, _, ops, rfl, ops_list hrH.out rfl, hlH.out, hbH.out, a, c, e, by have := hrH.out; rw [e] at this; exact own_cap this⟩
end Go.Proofs.Ytcigiilhlealdaa
