/- Ops that are drawn. -/
import Derived.Test.YtchcdlelaklnnaaDrN
import Derived.Test.YtchcdlelaklnnaaKsA
import Derived.Test.YtchcdlelaklnnaaMkP
namespace Go.Proofs.Ytchcdlelaklnnaa
set_option linter.unusedVariables false
open Go.ChangeShapes Go.WideShapes Go.ChangeAt Go.RowKit

theorem once_calls (C : Option Addr) (len cap p : Nat) (w0 w : World) (n : Int) (h1 : 0 < n) (h : Cur C len cap p w0 w) :
    Calls Try.prog 58 #[.pointer (some ⟨p, 0, none⟩), .int .i64 n] w fun e w' => ∃ b : Bool, e = .returned (.bool b) ∧ Cur C len cap p w0 w' ∧ Only p w w' := by
  have hb := below_calls C len cap p w0 w n h1 h
  clear h
  go_enter Try.func58, Try.ntmps58
  go_wp2_with (go_at_call 57; refine hb.mono ?_; rintro e w' ⟨x, hx0, hx1, rfl, hc, ho⟩)
  go_ret
  exact ⟨_, rfl, by assumption, by assumption⟩
/-- The cells of ops. -/
def opsC (ops : List OpM) : List Value := ops.flatMap fun o => [.int .i64 o.kind, .int .i64 o.a, .int .i64 o.b, .int .i64 o.c]
theorem opsC_length : ∀ ops : List OpM, (opsC ops).length = ops.length * 4
  | [] => rfl
  | o :: ops => by
    have := opsC_length ops
    show ([_, _, _, _] ++ opsC ops).length = (ops.length + 1) * 4
    rw [List.length_append, this]
    simp only [List.length_cons, List.length_nil]
    omega
theorem opsC_snoc (ops : List OpM) (o : OpM) : opsC (ops ++ [o]) = opsC ops ++ [.int .i64 o.kind, .int .i64 o.a, .int .i64 o.b, .int .i64 o.c] := by simp [opsC]
theorem opsC_get : ∀ (ops : List OpM) (j : Nat) (hj : j < ops.length) (i : Nat) (u : Value), [Value.int .i64 ops[j].kind, .int .i64 ops[j].a, .int .i64 ops[j].b, .int .i64 ops[j].c][i]? = some u → (opsC ops)[j * 4 + i]? = some u
  | o :: ops, 0, _, i, u, h => by
    rw [Nat.zero_mul, Nat.zero_add]
    have h : [Value.int .i64 o.kind, .int .i64 o.a, .int .i64 o.b, .int .i64 o.c][i]? = some u := h
    show ([_, _, _, _] ++ opsC ops)[i]? = _
    rw [List.getElem?_append_left (List.getElem?_eq_some_iff.1 h).1]
    exact h
  | o :: ops, j + 1, hj, i, u, h => by
    have := opsC_get ops j (by simpa using hj) i u h
    show ([_, _, _, _] ++ opsC ops)[(j + 1) * 4 + i]? = _
    rw [List.getElem?_append_right (by simp; omega)]
    rw [show (j + 1) * 4 + i - [Value.int .i64 o.kind, .int .i64 o.a, .int .i64 o.b, .int .i64 o.c].length = j * 4 + i by simp; omega]
    exact this
theorem ops_list {w : World} {B n : Nat} {v : Value} {ops : List OpM} (h : w.ownsRow B 27 4 v n (opsC ops)) (hn : n = ops.length) : ListAt MopR 4 false B w.heap.size w v ops := by
  subst hn
  by_cases h0 : ops.length = 0
  · have : ops = [] := List.eq_nil_of_length_eq_zero h0
    subst this
    obtain ⟨a, c, e⟩ := own_slice h
    exact .inl ⟨rfl, rfl, a, c, e⟩
  · obtain ⟨g, c, e⟩ := own_some h (by omega)
    have hl := World.ownsRow.lt h g (by rw [e]; rfl)
    rw [e] at h
    refine .inr ⟨g, 0, c, e, hl.1, hl.2, (fun q => by simp at q), fun j hj => ⟨[.int .i64 ops[j].kind, .int .i64 ops[j].a, .int .i64 ops[j].b, .int .i64 ops[j].c], rfl, fun i u hu => ?_, rfl, (fun q => by simp at q)⟩⟩
    have hc := opsC_get ops j hj i u hu
    have hil : j * 4 + i < (opsC ops).length := (List.getElem?_eq_some_iff.1 hc).1
    rw [show 0 + j * 4 + i = j * 4 + i by omega, World.ownsRow.cellAt h (j * 4 + i) (by rw [opsC_length] at hil; exact hil)]
    exact hc
/-- Where the drawing of ops stands. -/
structure DrS (C : Option Addr) (len cap p : Nat) (w0 w : World) (ov : Value) (ops : List OpM) : Prop where
  cur : Cur C len cap p w0 w
  row : w.ownsRow w0.heap.size 27 4 ov ops.length (opsC ops)
  ne : ∀ k, ov.ownBlock = some k → k ≠ p
theorem DrS.alloc {C : Option Addr} {len cap p : Nat} {w0 w : World} {ov : Value} {ops : List OpM} (h : DrS C len cap p w0 w ov ops) (o : Obj) : DrS C len cap p w0 (w.alloc o) ov ops :=
  ⟨h.cur.alloc o, own_kept h.row fun k hk => Below.heap_alloc _ _ _ (World.ownsRow.lt h.row k hk).2, h.ne⟩
theorem DrS.only {C : Option Addr} {len cap p : Nat} {w0 w w' : World} {ov : Value} {ops : List OpM} (h : DrS C len cap p w0 w ov ops) (hc : Cur C len cap p w0 w') (ho : Only p w w') : DrS C len cap p w0 w' ov ops :=
  ⟨hc, own_kept h.row fun k hk => ho.2 k (World.ownsRow.lt h.row k hk).2 (h.ne k hk), h.ne⟩
theorem DrS.draw {C : Option Addr} {len cap p : Nat} {w0 w : World} {ov : Value} {ops : List OpM} (h : DrS C len cap p w0 w ov ops) (n : Int) (hn : 0 < n) :
    Calls Try.prog 57 #[.pointer (some ⟨p, 0, none⟩), .int .i64 n] w fun e w' => ∃ x : Int, 0 ≤ x ∧ x < n ∧ e = .returned (.int .i64 x) ∧ DrS C len cap p w0 w' ov ops ∧ Only p w w' :=
  (below_calls C len cap p w0 w n hn h.cur).mono fun e w' ⟨x, a, b, c, d, f⟩ => ⟨x, a, b, c, h.only d f, f⟩
theorem DrS.once {C : Option Addr} {len cap p : Nat} {w0 w : World} {ov : Value} {ops : List OpM} (h : DrS C len cap p w0 w ov ops) (n : Int) (hn : 0 < n) :
    Calls Try.prog 58 #[.pointer (some ⟨p, 0, none⟩), .int .i64 n] w fun e w' => ∃ b : Bool, e = .returned (.bool b) ∧ DrS C len cap p w0 w' ov ops ∧ Only p w w' :=
  (once_calls C len cap p w0 w n hn h.cur).mono fun e w' ⟨x, c, d, f⟩ => ⟨x, c, h.only d f, f⟩
theorem Cur.keep {C : Option Addr} {len cap p : Nat} {w0 w w' : World} (h : Cur C len cap p w0 w) (hp : w'.heap[p]? = w.heap[p]?) (hb : Below w0.heap.size w0 w') : Cur C len cap p w0 w' := by
  have hc : ∀ i, w'.cell? ⟨p, i, none⟩ = w.cell? ⟨p, i, none⟩ := fun i => World.cell?_of_block (w := w) hp
  have hf : ∀ i, w'.frozen? ⟨p, i, none⟩ = w.frozen? ⟨p, i, none⟩ := fun i => World.frozen?_of_block (w := w) hp
  obtain ⟨k, s, hk, c0, c1, c2⟩ := h.row
  exact ⟨h.code, hb, h.new, ⟨k, s, hk, by rw [hc]; exact c0, by rw [hc]; exact c1, by rw [hc]; exact c2⟩, by rw [hf]; exact h.f1, by rw [hf]; exact h.f2⟩
/-- With an op in a box of its own. -/
structure DrT (C : Option Addr) (len cap p : Nat) (w0 w : World) (ov : Value) (ops : List OpM) (bx : Nat) (o : OpM) : Prop where
  s : DrS C len cap p w0 w ov ops
  blk : w.heap[bx]? = some (.cells #[.int .i64 o.kind, .int .i64 o.a, .int .i64 o.b, .int .i64 o.c] 27 (0, 0))
  ge : w0.heap.size ≤ bx
  np : bx ≠ p
  no : ov.ownBlock ≠ some bx
theorem DrT.only {C : Option Addr} {len cap p : Nat} {w0 w w' : World} {ov : Value} {ops : List OpM} {bx : Nat} {o : OpM} (h : DrT C len cap p w0 w ov ops bx o) (hs : DrS C len cap p w0 w' ov ops) (ho : Only p w w') : DrT C len cap p w0 w' ov ops bx o :=
  ⟨hs, (ho.2 bx (lt_of h.blk) h.np).trans h.blk, h.ge, h.np, h.no⟩
theorem DrT.draw {C : Option Addr} {len cap p : Nat} {w0 w : World} {ov : Value} {ops : List OpM} {bx : Nat} {o : OpM} (h : DrT C len cap p w0 w ov ops bx o) (n : Int) (hn : 0 < n) :
    Calls Try.prog 57 #[.pointer (some ⟨p, 0, none⟩), .int .i64 n] w fun e w' => ∃ x : Int, 0 ≤ x ∧ x < n ∧ e = .returned (.int .i64 x) ∧ DrT C len cap p w0 w' ov ops bx o :=
  (h.s.draw n hn).mono fun e w' ⟨x, a, b, c, d, f⟩ => ⟨x, a, b, c, h.only d f⟩
theorem DrT.once {C : Option Addr} {len cap p : Nat} {w0 w : World} {ov : Value} {ops : List OpM} {bx : Nat} {o : OpM} (h : DrT C len cap p w0 w ov ops bx o) (n : Int) (hn : 0 < n) :
    Calls Try.prog 58 #[.pointer (some ⟨p, 0, none⟩), .int .i64 n] w fun e w' => ∃ b : Bool, e = .returned (.bool b) ∧ DrT C len cap p w0 w' ov ops bx o :=
  (h.s.once n hn).mono fun e w' ⟨x, c, d, f⟩ => ⟨x, c, h.only d f⟩
theorem DrS.box {C : Option Addr} {len cap p : Nat} {w0 w : World} {ov : Value} {ops : List OpM} (h : DrS C len cap p w0 w ov ops) (o : OpM) : DrT C len cap p w0 (w.alloc (.cells #[.int .i64 o.kind, .int .i64 o.a, .int .i64 o.b, .int .i64 o.c] 27)) ov ops w.heap.size o :=
  ⟨h.alloc _, heap_alloc_new w _, h.cur.bel.size, fun e => by have := h.cur.lt; omega, fun e => by have := (World.ownsRow.lt h.row _ e).2; omega⟩
theorem DrT.set {C : Option Addr} {len cap p : Nat} {w0 w : World} {ov : Value} {ops : List OpM} {bx : Nat} {o : OpM} (h : DrT C len cap p w0 w ov ops bx o) (o' : OpM) : DrT C len cap p w0 (w.setRow bx #[.int .i64 o'.kind, .int .i64 o'.a, .int .i64 o'.b, .int .i64 o'.c]) ov ops bx o' :=
  ⟨⟨h.s.cur.keep (setRow_other _ _ _ _ (Ne.symm h.np)) ⟨h.s.cur.bel.os, h.s.cur.bel.tape, h.s.cur.bel.output, by rw [setRow_size]; exact h.s.cur.bel.size, fun k hk => (setRow_other _ _ _ _ (by have := h.ge; omega)).trans (h.s.cur.bel.block k hk)⟩, own_kept h.s.row fun k hk => setRow_other _ _ _ _ (fun e => h.no (by rw [hk, e])), h.s.ne⟩, setRow_heap _ _ _ _ _ _ h.blk, h.ge, h.np, h.no⟩
theorem DrT.push {C : Option Addr} {len cap p : Nat} {w0 w w' : World} {ov ov' : Value} {ops : List OpM} {bx : Nat} {o : OpM} {ob : Obj} (h : DrT C len cap p w0 w ov ops bx o)
    (hr : w'.ownsRow w0.heap.size 27 4 ov' (ops.length + 1) (opsC ops ++ [.int .i64 o.kind, .int .i64 o.a, .int .i64 o.b, .int .i64 o.c])) (hg : (w.alloc ob).grownBy w' ov.ownBlock) (ha : ov'.ownBlock = ov.ownBlock ∨ ov'.ownBlock = some (w.alloc ob).heap.size) : DrS C len cap p w0 w' ov' (ops ++ [o]) := by
  have hs : (w.alloc ob).heap.size = w.heap.size + 1 := World.size_alloc _ _
  have hl := h.s.cur.lt
  have hB := (h.s.cur.bel.alloc h.s.cur.bel.size ob).grown hg (by have := h.s.cur.bel.size; omega) (fun j hj => (World.ownsRow.lt h.s.row j hj).1)
  refine ⟨h.s.cur.keep ?_ hB, ?_, fun k hk => ?_⟩
  · rw [hg.block p (by omega) (fun e => h.s.ne p e.symm rfl)]
    exact Below.heap_alloc _ _ _ hl
  · rw [List.length_append, opsC_snoc]
    exact hr
  · rcases ha with e | e
    · exact h.s.ne k (by rw [← e]; exact hk)
    · rw [e] at hk
      injection hk with hk
      omega
end Go.Proofs.Ytchcdlelaklnnaa
