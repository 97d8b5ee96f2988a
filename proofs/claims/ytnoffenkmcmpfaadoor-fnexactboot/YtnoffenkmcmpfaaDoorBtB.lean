/- Classes that are laid anew: how they come out of the blocks. -/
import Derived.Test.YtnoffenkmcmpfaaDoorBtA
namespace Go.Proofs.YtnoffenkmcmpfaaDoor
set_option linter.unusedVariables false
open Go.ChangeShapes Go.WideShapes Go.ChangeAt Go.RowKit

abbrev nilV : Value := .slice none 0 0
def InsL.row (x : InsL) : List Value := [.int .i64 x.o, .int .i64 x.k, .int .i64 x.a, .int .i64 x.b, .string x.T, .string x.C, .string x.N, .string x.Y, nilV]
def FieldL.row (x : FieldL) : List Value := [.string x.name, .string x.ty, .int .i64 x.flags]
def MethL.row (x : MethL) (c : Value) : List Value := [.string x.name, .string x.sig, .int .i64 x.flags, .int .i64 x.stack, .int .i64 x.locals, c, nilV, nilV, nilV]
def ClassL.row (x : ClassL) (s t : Value) : List Value := [.string x.name, .string x.super, nilV, .int .i64 x.flags, nilV, s, t]

theorem flat_at {α : Type} (k : Nat) : ∀ (rows : List (List α)) (rest : List α) (j i : Nat) (hj : j < rows.length), (∀ r ∈ rows, r.length = k) → i < k → (rows.flatten ++ rest)[j * k + i]? = (rows[j])[i]?
  | [], _, _, _, hj, _, _ => by simp at hj
  | r :: rs, rest, 0, i, _, hk, hi => by
    have := hk r (by simp)
    simp only [List.flatten_cons, List.append_assoc, Nat.zero_mul, Nat.zero_add, List.getElem_cons_zero]
    rw [List.getElem?_append_left (by omega)]
  | r :: rs, rest, j + 1, i, hj, hk, hi => by
    have h0 := hk r (by simp)
    have := flat_at k rs rest j i (by simpa using hj) (fun r hr => hk r (by simp [hr])) hi
    simp only [List.flatten_cons, List.append_assoc, List.getElem_cons_succ]
    rw [List.getElem?_append_right (by rw [h0, Nat.add_mul]; omega), ← this]
    congr 1
    rw [h0, Nat.add_mul]; omega
theorem flat_len {α : Type} (k : Nat) : ∀ (rows : List (List α)), (∀ r ∈ rows, r.length = k) → rows.flatten.length = rows.length * k
  | [], _ => by simp
  | r :: rs, hk => by
    have h0 := hk r (by simp)
    have := flat_len k rs (fun r hr => hk r (by simp [hr]))
    simp only [List.flatten_cons, List.length_append, List.length_cons, h0, this, Nat.add_mul]; omega

/-- A block whose cells are the rows, one behind the other. -/
theorem listF_rows {α : Type} {R : RdF α} {k : Nat} {t : TypeId} {w : World} {b c : Nat} {cur : Array Value} {xs : List α} {rows : List (List Value)} {Fs : List (List Nat)} {rest : List Value}
    (hh : w.heap[b]? = some (.cells cur t (0, 0))) (hc : cur.toList = rows.flatten ++ rest) (hk : ∀ r ∈ rows, r.length = k) (hl : rows.length = xs.length) (hF : Fs.length = xs.length)
    (hR : ∀ j (h : j < xs.length), R w (rows[j]) xs[j] (Fs[j]?.getD [])) : ListF R k t w (.slice (some ⟨b, 0, none⟩) xs.length c) xs (b :: List.flatten Fs) := by
  refine .inr ⟨b, c, Fs, cur, rfl, rfl, hF, hh, ?_, fun j hj => ⟨rows[j], hk _ (List.getElem_mem _), fun i v hv => ?_, hR j hj⟩⟩
  · rw [← Array.length_toList, hc, List.length_append, flat_len k rows hk, hl]; omega
  · have hi : i < k := by rw [← hk rows[j] (List.getElem_mem _)]; exact (List.getElem?_eq_some_iff.1 hv).1
    have := flat_at k rows rest j i (by omega) hk hi
    rw [← hc, hv] at this
    simpa [World.cell?, hh] using this
theorem insF_list {w : World} {b c : Nat} {cur : Array Value} (xs : List InsL) (hh : w.heap[b]? = some (.cells cur 29 (0, 0))) (hc : cur.toList = (xs.map InsL.row).flatten) : ListF InsF 9 29 w (.slice (some ⟨b, 0, none⟩) xs.length c) xs [b] := by
  have h := listF_rows (R := InsF) (k := 9) (c := c) (xs := xs) (rows := xs.map InsL.row) (Fs := xs.map fun _ => []) (rest := []) hh (by simpa using hc) (by simp [InsL.row]) (by simp) (by simp) (fun j h => ⟨by simp [InsL.row], by simp [h]⟩)
  have e : List.flatten (xs.map fun _ => ([] : List Nat)) = [] := by simp
  rwa [e] at h
theorem fieldF_list {w : World} {b c : Nat} {cur : Array Value} (xs : List FieldL) (hh : w.heap[b]? = some (.cells cur 46 (0, 0))) (hc : cur.toList = (xs.map FieldL.row).flatten) : ListF FieldF 3 46 w (.slice (some ⟨b, 0, none⟩) xs.length c) xs [b] := by
  have h := listF_rows (R := FieldF) (k := 3) (c := c) (xs := xs) (rows := xs.map FieldL.row) (Fs := xs.map fun _ => []) (rest := []) hh (by simpa using hc) (by simp [FieldL.row]) (by simp) (by simp) (fun j h => ⟨by simp [FieldL.row], by simp [h]⟩)
  have e : List.flatten (xs.map fun _ => ([] : List Nat)) = [] := by simp
  rwa [e] at h
abbrev Meths := List (MethL × Value × List Nat)
def Meths.foot (ms : Meths) : List Nat := List.flatten (ms.map (·.2.2))
theorem methF_list {w : World} {b c : Nat} {cur : Array Value} (ms : Meths) (hh : w.heap[b]? = some (.cells cur 36 (0, 0))) (hc : cur.toList = (ms.map fun m => m.1.row m.2.1).flatten) (hms : ∀ m ∈ ms, ListF InsF 9 29 w m.2.1 m.1.code m.2.2) :
    ListF MethF 9 36 w (.slice (some ⟨b, 0, none⟩) ms.length c) (ms.map (·.1)) (b :: ms.foot) := by
  have h := listF_rows (R := MethF) (k := 9) (c := c) (xs := ms.map (·.1)) (rows := ms.map fun m => m.1.row m.2.1) (Fs := ms.map (·.2.2)) (rest := []) hh (by simpa using hc) (fun r hr => by obtain ⟨m, _, rfl⟩ := List.mem_map.1 hr; rfl) (by simp) (by simp) (fun j h => by
    have hj : j < ms.length := by simpa using h
    refine ⟨(ms[j]).2.1, by simp [MethL.row], ?_⟩
    have := hms ms[j] (List.getElem_mem hj)
    simpa [hj] using this)
  simpa [Meths.foot] using h

/-- A class of the call's own: none of its blocks was there. -/
def ClassOwn (w w' : World) (row : List Value) (x : ClassL) : Prop := ∃ F, ClassF w' row x F ∧ F.Nodup ∧ ∀ b ∈ F, w.heap.size ≤ b
theorem ClassOwn.call {w W W' : World} {row : List Value} {x : ClassL} (h : ClassOwn w W row x) (hb : Below W.heap.size W W') : ClassOwn w W' row x := by
  obtain ⟨F, h1, h2, h3⟩ := h
  exact ⟨F, ClassF.good.stab h1 (EqOn.below hb (ClassF.good.lt h1)), h2, h3⟩
theorem ClassOwn.from {w w0 W : World} {row : List Value} {x : ClassL} (h : ClassOwn w W row x) (hb : w0.heap.size ≤ w.heap.size) : ClassOwn w0 W row x := by
  obtain ⟨F, h1, h2, h3⟩ := h
  exact ⟨F, h1, h2, fun b hb' => Nat.le_trans hb (h3 b hb')⟩
/-- The methods' blocks, as a world has them. -/
def MethsIn (w : World) (ms : Meths) (W : World) : Prop := (∀ m ∈ ms, ListF InsF 9 29 W m.2.1 m.1.code m.2.2) ∧ ms.foot.Nodup ∧ ∀ b ∈ ms.foot, w.heap.size + 1 ≤ b
theorem MethsIn.lt {w W : World} {ms : Meths} (h : MethsIn w ms W) : ∀ b ∈ ms.foot, b < W.heap.size := fun b hb => by
  obtain ⟨G, hG, hbG⟩ := List.mem_flatten.1 hb
  obtain ⟨m, hm, rfl⟩ := List.mem_map.1 hG
  exact (h.1 m hm).lt InsF.good b hbG
theorem MethsIn.call {w W W' : World} {ms : Meths} (h : MethsIn w ms W) (hb : Below W.heap.size W W') : MethsIn w ms W' := ⟨fun m hm => (h.1 m hm).below InsF.good hb, h.2⟩
theorem MethsIn.nil (w W : World) : MethsIn w [] W := ⟨fun m hm => (List.not_mem_nil hm).elim, List.nodup_nil, fun b hb => (List.not_mem_nil hb).elim⟩
theorem MethsIn.native {w W : World} {ms : Meths} (h : MethsIn w ms W) (x : MethL) (hx : x.code = []) : MethsIn w (ms ++ [(x, nilV, [])]) W := by
  refine ⟨fun m hm => ?_, ?_, ?_⟩
  · rcases List.mem_append.1 hm with hm | hm
    · exact h.1 m hm
    · simp only [List.mem_singleton] at hm
      subst hm
      exact .inl ⟨hx, rfl, rfl⟩
  · have := h.2.1
    simpa [Meths.foot] using this
  · have := h.2.2
    simpa [Meths.foot] using this
theorem MethsIn.written {w W : World} {ms : Meths} (h : MethsIn w ms W) (x : MethL) (b c : Nat) (cur : Array Value) (hh : W.heap[b]? = some (.cells cur 29 (0, 0))) (hc : cur.toList = (x.code.map InsL.row).flatten) (hb : w.heap.size + 1 ≤ b) (hn : b ∉ ms.foot) : MethsIn w (ms ++ [(x, .slice (some ⟨b, 0, none⟩) x.code.length c, [b])]) W := by
  refine ⟨fun m hm => ?_, ?_, ?_⟩
  · rcases List.mem_append.1 hm with hm | hm
    · exact h.1 m hm
    · simp only [List.mem_singleton] at hm
      subst hm
      exact insF_list x.code hh hc
  · have e : Meths.foot (ms ++ [(x, .slice (some ⟨b, 0, none⟩) x.code.length c, [b])]) = ms.foot ++ [b] := by simp [Meths.foot]
    rw [e, List.nodup_append]
    exact ⟨h.2.1, by simp, fun a ha b' hb' e2 => by simp only [List.mem_singleton] at hb'; subst e2; subst hb'; exact hn ha⟩
  · have e : Meths.foot (ms ++ [(x, .slice (some ⟨b, 0, none⟩) x.code.length c, [b])]) = ms.foot ++ [b] := by simp [Meths.foot]
    rw [e]
    intro d hd
    rcases List.mem_append.1 hd with hd | hd
    · exact h.2.2 d hd
    · simp only [List.mem_singleton] at hd; omega
/-- A code's block is new: no method ahead has it. -/
theorem MethsIn.fresh {w W : World} {ms : Meths} (h : MethsIn w ms W) : W.heap.size ∉ ms.foot := fun hb => Nat.lt_irrefl _ (h.lt _ hb)
theorem MethsIn.writtenA {w W W' : World} {ms : Meths} (h : MethsIn w ms W) (x : MethL) (c : Nat) (cur : Array Value) (hb : Below (W.alloc (.cells cur 29)).heap.size (W.alloc (.cells cur 29)) W') (hc : cur.toList = (x.code.map InsL.row).flatten) (hw : w.heap.size + 1 ≤ W.heap.size) :
    MethsIn w (ms ++ [(x, .slice (some ⟨W.heap.size, 0, none⟩) x.code.length c, [W.heap.size])]) W' :=
  ((h.call (below_1 _ _)).call hb).written x W.heap.size c cur ((hb.block _ (heap_lt (heap_alloc_new W _))).trans (heap_alloc_new W _)) hc hw h.fresh
theorem MethsIn.writtenB {w W W' : World} {ms : Meths} (h : MethsIn w ms W) (x : MethL) (b c : Nat) (cur : Array Value) (he : b = W.heap.size) (hb : Below (W.alloc (.cells cur 29)).heap.size (W.alloc (.cells cur 29)) W') (hc : cur.toList = (x.code.map InsL.row).flatten) (hw : w.heap.size + 1 ≤ W.heap.size) :
    MethsIn w (ms ++ [(x, .slice (some ⟨b, 0, none⟩) x.code.length c, [b])]) W' := by
  subst he
  exact h.writtenA x c cur hb hc hw

/-- The answer's block of seven cells, through the calls that follow. -/
structure Own7 (w W : World) : Prop where
  hb : Below w.heap.size w W
  sz : w.heap.size + 1 ≤ W.heap.size
  th : W.there w.heap.size 0 7
theorem Own7.call {w W W' : World} (h : Own7 w W) (hb : Below W.heap.size W W') : Own7 w W' := ⟨below_on h.hb hb, Nat.le_trans h.sz hb.size, there_kept hb (by have := h.sz; omega) h.th⟩
theorem Own7.start (w : World) (a0 a1 a2 a3 a4 a5 a6 : Value) (t : TypeId) : Own7 w (w.alloc (.cells #[a0, a1, a2, a3, a4, a5, a6] t)) := ⟨below_1 _ _, by simp, there_heap (heap_alloc_new w _)⟩
/-- A class without fields, its methods' block laid last. -/
theorem classOwn_mk {w W : World} (hO : Own7 w W) {ms : Meths} (hM : MethsIn w ms W) (M : Array Value) (n s : ByteArray) (f : Int) (hc : M.toList = (ms.map fun m => m.1.row m.2.1).flatten) (c : Nat) (row : List Value) (hrow : row = [.string n, .string s, nilV, .int .i64 f, nilV, nilV, .slice (some ⟨W.heap.size, 0, none⟩) ms.length c]) :
    ClassOwn w ((W.alloc (.cells M 36)).setCells w.heap.size 0 row) row ⟨n, s, f, [], ms.map (·.1)⟩ := by
  have hsz := hO.sz
  have hE : EqOn ms.foot W ((W.alloc (.cells M 36)).setCells w.heap.size 0 row) := fun b hb => by
    rw [heap_setCells _ _ _ _ _ (by have := hM.2.2 b hb; omega)]
    exact (below_1 W _).block b (hM.lt b hb)
  have hh : ((W.alloc (.cells M 36)).setCells w.heap.size 0 row).heap[W.heap.size]? = some (.cells M 36 (0, 0)) := by
    rw [heap_setCells _ _ _ _ _ (by omega)]
    exact heap_alloc_new W _
  refine ⟨[] ++ W.heap.size :: ms.foot, ⟨nilV, _, [], _, hrow, .inl ⟨rfl, rfl, rfl⟩, methF_list ms hh hc (fun m hm => (hM.1 m hm).kept InsF.good fun b hb => hE b (List.mem_flatten.2 ⟨m.2.2, List.mem_map.2 ⟨m, hm, rfl⟩, hb⟩)), rfl⟩, ?_, ?_⟩
  · simp only [List.nil_append, List.nodup_cons]
    exact ⟨hM.fresh, hM.2.1⟩
  · intro b hb
    simp only [List.nil_append, List.mem_cons] at hb
    rcases hb with rfl | hb
    · omega
    · have := hM.2.2 b hb; omega
end Go.Proofs.YtnoffenkmcmpfaaDoor
