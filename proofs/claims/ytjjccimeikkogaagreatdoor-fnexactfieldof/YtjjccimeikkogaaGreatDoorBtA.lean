import Derived.Test.YtjjccimeikkogaaGreatDoorRows
import Derived.WalkKit
import Derived.ProofKit
import Derived.Below
import Derived.Deep.MidRow
import Derived.Deep.QuietTactic
import Derived.Deep.Light
import Derived.OwnWalk
import Derived.Deep.RegionHeld3
import Derived.Deep.DeepCutAuto
import Derived.Laws.OwnMore
namespace Go.Proofs.YtjjccimeikkogaaGreatDoor.Bt
set_option linter.unusedVariables false
open Go.ChangeShapes Go.WideShapes Go.ChangeAt Go.RowKit
theorem size_setCells (b : Nat) : ∀ (vs : List Value) (o : Nat) (w : World), (w.setCells b o vs).heap.size = w.heap.size
 | [], _, _ => rfl
 | v :: r, o, w => by rw [World.setCells, size_setCells b r]; simp [World.setCell]
theorem below_setCells {B : Nat} {a : World} (b : Nat) (hb : B ≤ b) : ∀ (vs : List Value) (o : Nat) (w : World), Below B a w → Below B a (w.setCells b o vs)
 | [], _, _, h => h
 | v :: r, o, w, h => by rw [World.setCells]; exact below_setCells b hb r (o + 1) _ (h.setCell (p := ⟨b, o, none⟩) hb v)
theorem heap_setCells (b : Nat) : ∀ (vs : List Value) (o : Nat) (w : World) (k : Nat), k ≠ b → (w.setCells b o vs).heap[k]? = w.heap[k]?
 | [], _, _, _, _ => rfl
 | v :: r, o, w, k, h => by rw [World.setCells, heap_setCells b r _ _ _ h, Below.heap_setCell _ _ _ _ h]
theorem rangeAt_heap {w : World} {g : Nat} {cs : Array Value} {t : TypeId} {fr : Nat × Nat} (h : w.heap[g]? = some (.cells cs t fr)) : w.rangeAt g 0 cs.toList := fun j v hv => by
 rw [Nat.zero_add]
 simpa [World.cell?, h] using hv
theorem there_heap {w : World} {g : Nat} {cs : Array Value} {t : TypeId} (h : w.heap[g]? = some (.cells cs t (0, 0))) : w.there g 0 cs.size := fun j hj => by
 rw [Nat.zero_add]
 constructor
 ·simp [World.cell?, h, hj]
 ·simp [World.frozen?, h]
theorem there_kept {B : Nat} {w w' : World} (hb : Below B w w') {g o n : Nat} (hg : g < B) (h : w.there g o n) : w'.there g o n := fun j hj => by
 obtain ⟨h1, h2⟩ := h j hj
 exact ⟨by rw [hb.cell (p := ⟨g, o + j, none⟩) hg]; exact h1, by rw [hb.frozen (p := ⟨g, o + j, none⟩) hg]; exact h2⟩
theorem rangeAt_kept {B : Nat} {w w' : World} (hb : Below B w w') {g o : Nat} {cs : List Value} (hg : g < B) (h : w.rangeAt g o cs) : w'.rangeAt g o cs := fun j v hv => by
 rw [hb.cell (p := ⟨g, o + j, none⟩) hg]; exact h j v hv
theorem below_1 (w : World) (a : Obj) : Below w.heap.size w (w.alloc a) := (Below.refl _ _).alloc (Nat.le_refl _) _
theorem below_2 (w : World) (a b : Obj) : Below w.heap.size w ((w.alloc a).alloc b) := ((Below.refl _ _).alloc (Nat.le_refl _) _).alloc (by simp) _
theorem below_on {w W w' : World} (h : Below w.heap.size w W) (h2 : Below W.heap.size W w') : Below w.heap.size w w' := h.trans (h2.mono h.size)
theorem below_drewN {B : Nat} {w w' : World} (h : Below B w w') (n : Nat) : Below B w (w'.drewN n) := by
 induction n with
 | zero => exact h
 | succ n ih => exact ih.drew
theorem grown_below {w w' : World} (h : Below w.heap.size w w') : w.grownBy w' none := ⟨h.os, h.tape, h.output, h.size, fun k hk _ => h.block k hk⟩
def OneCells (row : List Value) : Prop := row.all (·.oneCell') = true
theorem OneCells.all {row : List Value} (h : OneCells row) : row.toArray.all (·.oneCell') = true := all_oneCell_toArray (by simpa [OneCells] using h)
theorem results_cell_mid {fn : Func} {p : Tmp} {ty : TypeId} (h : fn.results = #[.cell p ty]) (tmps : Array Value) (w : World) (g : Nat) (cs : List Value) (d : TypeDesc)
  (hp : tmps.getD p undef = .pointer (some ⟨g, 0, none⟩)) (hc : w.rangeAt g 0 cs)
  (hu : Tryz.prog.underlying ty = some d) (hd : d.isRow = true) (hi : (Tryz.prog.info? ty).map (·.size) = some cs.length) :
  (results fn tmps).run Tryz.prog w = .ok (.agg cs.toArray) w := by
 have hp' : tmps[p]?.getD undef = .pointer (some ⟨g, 0, none⟩) := by simpa using hp
 simp [results, h, hp', asAddr, run_loadVar_mid w g 0 ty cs d hc hu hd hi]
def EqOn (F : List Nat) (w w' : World) : Prop := ∀ b ∈ F, w'.heap[b]? = w.heap[b]?
theorem EqOn.below {F : List Nat} {B : Nat} {w w' : World} (h : Below B w w') (hF : ∀ b ∈ F, b < B) : EqOn F w w' := fun b hb => h.block b (hF b hb)
abbrev RdF (α : Type) := World → List Value → α → List Nat → Prop
structure GoodF {α : Type} (R : RdF α) : Prop where
 stab : ∀ {w w' : World} {row : List Value} {x : α} {F : List Nat}, R w row x F → EqOn F w w' → R w' row x F
 lt : ∀ {w : World} {row : List Value} {x : α} {F : List Nat}, R w row x F → ∀ b ∈ F, b < w.heap.size
theorem heap_lt {w : World} {b : Nat} {o : Obj} (h : w.heap[b]? = some o) : b < w.heap.size := (Array.getElem?_eq_some_iff.1 h).1
def ListF {α : Type} (R : RdF α) (k : Nat) (t : TypeId) (w : World) (v : Value) (xs : List α) (F : List Nat) : Prop :=
 (xs = [] ∧ v = .slice none 0 0 ∧ F = []) ∨ ∃ b c Fs cur, v = .slice (some ⟨b, 0, none⟩) xs.length c ∧ F = b :: List.flatten Fs ∧ Fs.length = xs.length ∧ w.heap[b]? = some (.cells cur t (0, 0)) ∧ xs.length * k ≤ cur.size ∧
  ∀ j (h : j < xs.length), ∃ row, row.length = k ∧ w.rangeAt b (j * k) row ∧ R w row xs[j] (Fs[j]?.getD [])
theorem mem_flat {Fs : List (List Nat)} {j c : Nat} (h : c ∈ Fs[j]?.getD []) : c ∈ List.flatten Fs := by
 cases e : Fs[j]? with
 | none => rw [e] at h; cases h
 | some G => rw [e] at h; exact List.mem_flatten.2 ⟨G, List.mem_of_getElem? e, h⟩
theorem rangeAt_block {w w' : World} {b o : Nat} {cs : List Value} (h : w'.heap[b]? = w.heap[b]?) (hr : w.rangeAt b o cs) : w'.rangeAt b o cs := fun j v hv => by
 rw [World.cell?_of_block (w := w) h]; exact hr j v hv
theorem ListF.good {α : Type} {R : RdF α} (hR : GoodF R) (k : Nat) (t : TypeId) : GoodF (fun w row (xs : List α) F => ∃ v, row = [v] ∧ ListF R k t w v xs F) := by
 constructor
 ·rintro w w' row xs F ⟨v, rfl, h⟩ he
  refine ⟨v, rfl, ?_⟩
  rcases h with h | ⟨b, c, Fs, cur, hv, rfl, hl, hh, hs, hc⟩
  ·exact .inl h
  ·have hb := he b (by simp)
   refine .inr ⟨b, c, Fs, cur, hv, rfl, hl, hb.trans hh, hs, fun j hj => ?_⟩
   obtain ⟨row, h1, h2, h3⟩ := hc j hj
   exact ⟨row, h1, rangeAt_block hb h2, hR.stab h3 fun c hcc => he c (by simp only [List.mem_cons]; exact .inr (mem_flat hcc))⟩
 ·rintro w row xs F ⟨v, rfl, h⟩
  rcases h with ⟨_, _, rfl⟩ | ⟨b, c, Fs, cur, hv, rfl, hl, hh, hs, hc⟩
  ·intro b hb; cases hb
  ·intro d hd
   rcases List.mem_cons.1 hd with rfl | hd
   ·exact heap_lt hh
   ·obtain ⟨G, hG, hdG⟩ := List.mem_flatten.1 hd
    obtain ⟨j, hj, rfl⟩ := List.getElem_of_mem hG
    obtain ⟨row, h1, h2, h3⟩ := hc j (by omega)
    exact hR.lt h3 d (by rw [List.getElem?_eq_getElem hj]; exact hdG)
theorem ListF.kept {α : Type} {R : RdF α} (hR : GoodF R) {k : Nat} {t : TypeId} {w w' : World} {v : Value} {xs : List α} {F : List Nat} (h : ListF R k t w v xs F) (he : EqOn F w w') : ListF R k t w' v xs F := by
 obtain ⟨v', e, h'⟩ := (ListF.good hR k t).stab ⟨v, rfl, h⟩ he
 injection e with e
 subst e
 exact h'
theorem ListF.lt {α : Type} {R : RdF α} (hR : GoodF R) {k : Nat} {t : TypeId} {w : World} {v : Value} {xs : List α} {F : List Nat} (h : ListF R k t w v xs F) : ∀ b ∈ F, b < w.heap.size := (ListF.good hR k t).lt ⟨v, rfl, h⟩
theorem ListF.below {α : Type} {R : RdF α} (hR : GoodF R) {k : Nat} {t : TypeId} {w w' : World} {v : Value} {xs : List α} {F : List Nat} (h : ListF R k t w v xs F) (hb : Below w.heap.size w w') : ListF R k t w' v xs F := h.kept hR (EqOn.below hb (h.lt hR))
theorem ListF.form {α : Type} {R : RdF α} {k : Nat} {t : TypeId} {w : World} {v : Value} {xs : List α} {F : List Nat} (h : ListF R k t w v xs F) : ∃ a c, v = .slice a xs.length c := by
 rcases h with ⟨rfl, rfl, _⟩ | ⟨b, c, Fs, cur, hv, _⟩
 ·exact ⟨_, _, rfl⟩
 ·exact ⟨_, _, hv⟩
theorem ListF.at {α : Type} {R : RdF α} {k : Nat} {t : TypeId} {w : World} {a : Option Addr} {n c : Nat} {xs : List α} {F : List Nat} (h : ListF R k t w (.slice a n c) xs F) (j : Nat) (hj : j < xs.length) :
  ∃ b row G, a = some ⟨b, 0, none⟩ ∧ b < w.heap.size ∧ row.length = k ∧ w.rangeAt b (j * k) row ∧ w.there b (j * k) k ∧ R w row xs[j] G ∧ b ∈ F ∧ (∀ d ∈ G, d ∈ F) := by
 rcases h with ⟨h0, _⟩ | ⟨b, c', Fs, cur, hv, rfl, hl, hh, hs, hc⟩
 ·rw [h0] at hj; simp at hj
 ·injection hv with h1
  obtain ⟨row, hl, hr, hx⟩ := hc j hj
  refine ⟨b, row, _, h1, heap_lt hh, hl, hr, fun i hi => ?_, hx, by simp, fun d hd => by simp only [List.mem_cons]; exact .inr (mem_flat hd)⟩
  have : (j + 1) * k ≤ xs.length * k := Nat.mul_le_mul_right k hj
  rw [Nat.add_mul] at this
  have := there_heap hh (j * k + i) (by omega)
  simpa using this
structure InsL where
 o : Int
 k : Int
 a : Int
 b : Int
 T : ByteArray
 C : ByteArray
 N : ByteArray
 Y : ByteArray
structure FieldL where
 name : ByteArray
 ty : ByteArray
 flags : Int
structure MethL where
 name : ByteArray
 sig : ByteArray
 flags : Int
 stack : Int
 locals : Int
 code : List InsL
structure ClassL where
 name : ByteArray
 super : ByteArray
 flags : Int
 fields : List FieldL
 meths : List MethL
def InsF : RdF InsL := fun w row x F => row = [.int .i64 x.o, .int .i64 x.k, .int .i64 x.a, .int .i64 x.b, .string x.T, .string x.C, .string x.N, .string x.Y, .slice none 0 0] ∧ F = []
def FieldF : RdF FieldL := fun w row x F => row = [.string x.name, .string x.ty, .int .i64 x.flags] ∧ F = []
def MethF : RdF MethL := fun w row x F => ∃ c, row = [.string x.name, .string x.sig, .int .i64 x.flags, .int .i64 x.stack, .int .i64 x.locals, c, .slice none 0 0, .slice none 0 0, .slice none 0 0] ∧ ListF InsF 9 110 w c x.code F
def ClassF : RdF ClassL := fun w row x F => ∃ s t F1 F2, row = [.string x.name, .string x.super, .slice none 0 0, .int .i64 x.flags, .slice none 0 0, s, t] ∧ ListF FieldF 3 36 w s x.fields F1 ∧ ListF MethF 9 91 w t x.meths F2 ∧ F = F1 ++ F2
theorem InsF.good : GoodF InsF := ⟨fun h _ => h, fun h b hb => by rw [h.2] at hb; cases hb⟩
theorem FieldF.good : GoodF FieldF := ⟨fun h _ => h, fun h b hb => by rw [h.2] at hb; cases hb⟩
theorem MethF.good : GoodF MethF := ⟨fun ⟨c, h1, h2⟩ he => ⟨c, h1, h2.kept InsF.good he⟩, fun ⟨c, h1, h2⟩ => h2.lt InsF.good⟩
theorem ClassF.good : GoodF ClassF := by
 constructor
 ·rintro w w' row x F ⟨s, t, F1, F2, h1, h2, h3, rfl⟩ he
  exact ⟨s, t, F1, F2, h1, h2.kept FieldF.good fun b hb => he b (by simp [hb]), h3.kept MethF.good fun b hb => he b (by simp [hb]), rfl⟩
 ·rintro w row x F ⟨s, t, F1, F2, h1, h2, h3, rfl⟩ b hb
  rcases List.mem_append.1 hb with hb | hb
  ·exact h2.lt FieldF.good b hb
  ·exact h3.lt MethF.good b hb
end Go.Proofs.YtjjccimeikkogaaGreatDoor.Bt
/- Classes that are laid anew: how they come out of the blocks. -/
namespace Go.Proofs.YtjjccimeikkogaaGreatDoor.Bt
set_option linter.unusedVariables false
open Go.ChangeShapes Go.WideShapes Go.ChangeAt Go.RowKit
abbrev nilV : Value := .slice none 0 0
def InsL.row (x : InsL) : List Value := [.int .i64 x.o, .int .i64 x.k, .int .i64 x.a, .int .i64 x.b, .string x.T, .string x.C, .string x.N, .string x.Y, nilV]
def FieldL.row (x : FieldL) : List Value := [.string x.name, .string x.ty, .int .i64 x.flags]
def MethL.row (x : MethL) (c : Value) : List Value := [.string x.name, .string x.sig, .int .i64 x.flags, .int .i64 x.stack, .int .i64 x.locals, c, nilV, nilV, nilV]
def ClassL.row (x : ClassL) (s t : Value) : List Value := [.string x.name, .string x.super, nilV, .int .i64 x.flags, nilV, s, t]
theorem flat_at {α : Type} (k : Nat) : ∀ (rows : List (List α)) (rest : List α) (j i : Nat) (hj : j < rows.length), (∀ r ∈ rows, r.length = k) → i < k → (rows.flatten ++ rest)[j * k + i]? = (rows[j])[i]?
 | [], _, _, _, hj, _, _ => by simp at hj
 | r :: rs, rest, 0, i, _, hk, hi => by
  have := hk r (by simp)
  simp only [List.flatten_cons, List.append_assoc, Nat.zero_mul, Nat.zero_add, List.getElem_cons_zero]
  rw [List.getElem?_append_left (by omega)]
 | r :: rs, rest, j + 1, i, hj, hk, hi => by
  have h0 := hk r (by simp)
  have := flat_at k rs rest j i (by simpa using hj) (fun r hr => hk r (by simp [hr])) hi
  simp only [List.flatten_cons, List.append_assoc, List.getElem_cons_succ]
  rw [List.getElem?_append_right (by rw [h0, Nat.add_mul]; omega), ← this]
  congr 1
  rw [h0, Nat.add_mul]; omega
theorem flat_len {α : Type} (k : Nat) : ∀ (rows : List (List α)), (∀ r ∈ rows, r.length = k) → rows.flatten.length = rows.length * k
 | [], _ => by simp
 | r :: rs, hk => by
  have h0 := hk r (by simp)
  have := flat_len k rs (fun r hr => hk r (by simp [hr]))
  simp only [List.flatten_cons, List.length_append, List.length_cons, h0, this, Nat.add_mul]; omega
theorem listF_rows {α : Type} {R : RdF α} {k : Nat} {t : TypeId} {w : World} {b c : Nat} {cur : Array Value} {xs : List α} {rows : List (List Value)} {Fs : List (List Nat)} {rest : List Value}
  (hh : w.heap[b]? = some (.cells cur t (0, 0))) (hc : cur.toList = rows.flatten ++ rest) (hk : ∀ r ∈ rows, r.length = k) (hl : rows.length = xs.length) (hF : Fs.length = xs.length)
  (hR : ∀ j (h : j < xs.length), R w (rows[j]) xs[j] (Fs[j]?.getD [])) : ListF R k t w (.slice (some ⟨b, 0, none⟩) xs.length c) xs (b :: List.flatten Fs) := by
 refine .inr ⟨b, c, Fs, cur, rfl, rfl, hF, hh, ?_, fun j hj => ⟨rows[j], hk _ (List.getElem_mem _), fun i v hv => ?_, hR j hj⟩⟩
 ·rw [← Array.length_toList, hc, List.length_append, flat_len k rows hk, hl]; omega
 ·have hi : i < k := by rw [← hk rows[j] (List.getElem_mem _)]; exact (List.getElem?_eq_some_iff.1 hv).1
  have := flat_at k rows rest j i (by omega) hk hi
  rw [← hc, hv] at this
  simpa [World.cell?, hh] using this
theorem insF_list {w : World} {b c : Nat} {cur : Array Value} (xs : List InsL) (hh : w.heap[b]? = some (.cells cur 110 (0, 0))) (hc : cur.toList = (xs.map InsL.row).flatten) : ListF InsF 9 110 w (.slice (some ⟨b, 0, none⟩) xs.length c) xs [b] := by
 have h := listF_rows (R := InsF) (k := 9) (c := c) (xs := xs) (rows := xs.map InsL.row) (Fs := xs.map fun _ => []) (rest := []) hh (by simpa using hc) (by simp [InsL.row]) (by simp) (by simp) (fun j h => ⟨by simp [InsL.row], by simp [h]⟩)
 have e : List.flatten (xs.map fun _ => ([] : List Nat)) = [] := by simp
 rwa [e] at h
theorem fieldF_list {w : World} {b c : Nat} {cur : Array Value} (xs : List FieldL) (hh : w.heap[b]? = some (.cells cur 36 (0, 0))) (hc : cur.toList = (xs.map FieldL.row).flatten) : ListF FieldF 3 36 w (.slice (some ⟨b, 0, none⟩) xs.length c) xs [b] := by
 have h := listF_rows (R := FieldF) (k := 3) (c := c) (xs := xs) (rows := xs.map FieldL.row) (Fs := xs.map fun _ => []) (rest := []) hh (by simpa using hc) (by simp [FieldL.row]) (by simp) (by simp) (fun j h => ⟨by simp [FieldL.row], by simp [h]⟩)
 have e : List.flatten (xs.map fun _ => ([] : List Nat)) = [] := by simp
 rwa [e] at h
abbrev Meths := List (MethL × Value × List Nat)
def Meths.foot (ms : Meths) : List Nat := List.flatten (ms.map (·.2.2))
theorem methF_list {w : World} {b c : Nat} {cur : Array Value} (ms : Meths) (hh : w.heap[b]? = some (.cells cur 91 (0, 0))) (hc : cur.toList = (ms.map fun m => m.1.row m.2.1).flatten) (hms : ∀ m ∈ ms, ListF InsF 9 110 w m.2.1 m.1.code m.2.2) :
  ListF MethF 9 91 w (.slice (some ⟨b, 0, none⟩) ms.length c) (ms.map (·.1)) (b :: ms.foot) := by
 have h := listF_rows (R := MethF) (k := 9) (c := c) (xs := ms.map (·.1)) (rows := ms.map fun m => m.1.row m.2.1) (Fs := ms.map (·.2.2)) (rest := []) hh (by simpa using hc) (fun r hr => by obtain ⟨m, _, rfl⟩ := List.mem_map.1 hr; rfl) (by simp) (by simp) (fun j h => by
  have hj : j < ms.length := by simpa using h
  refine ⟨(ms[j]).2.1, by simp [MethL.row], ?_⟩
  have := hms ms[j] (List.getElem_mem hj)
  simpa [hj] using this)
 simpa [Meths.foot] using h
def ClassOwn (w w' : World) (row : List Value) (x : ClassL) : Prop := ∃ F, ClassF w' row x F ∧ F.Nodup ∧ ∀ b ∈ F, w.heap.size ≤ b
theorem ClassOwn.call {w W W' : World} {row : List Value} {x : ClassL} (h : ClassOwn w W row x) (hb : Below W.heap.size W W') : ClassOwn w W' row x := by
 obtain ⟨F, h1, h2, h3⟩ := h
 exact ⟨F, ClassF.good.stab h1 (EqOn.below hb (ClassF.good.lt h1)), h2, h3⟩
theorem ClassOwn.from {w w0 W : World} {row : List Value} {x : ClassL} (h : ClassOwn w W row x) (hb : w0.heap.size ≤ w.heap.size) : ClassOwn w0 W row x := by
 obtain ⟨F, h1, h2, h3⟩ := h
 exact ⟨F, h1, h2, fun b hb' => Nat.le_trans hb (h3 b hb')⟩
def MethsIn (w : World) (ms : Meths) (W : World) : Prop := (∀ m ∈ ms, ListF InsF 9 110 W m.2.1 m.1.code m.2.2) ∧ ms.foot.Nodup ∧ ∀ b ∈ ms.foot, w.heap.size + 1 ≤ b
theorem MethsIn.lt {w W : World} {ms : Meths} (h : MethsIn w ms W) : ∀ b ∈ ms.foot, b < W.heap.size := fun b hb => by
 obtain ⟨G, hG, hbG⟩ := List.mem_flatten.1 hb
 obtain ⟨m, hm, rfl⟩ := List.mem_map.1 hG
 exact (h.1 m hm).lt InsF.good b hbG
theorem MethsIn.call {w W W' : World} {ms : Meths} (h : MethsIn w ms W) (hb : Below W.heap.size W W') : MethsIn w ms W' := ⟨fun m hm => (h.1 m hm).below InsF.good hb, h.2⟩
theorem MethsIn.nil (w W : World) : MethsIn w [] W := ⟨fun m hm => (List.not_mem_nil hm).elim, List.nodup_nil, fun b hb => (List.not_mem_nil hb).elim⟩
theorem MethsIn.native {w W : World} {ms : Meths} (h : MethsIn w ms W) (x : MethL) (hx : x.code = []) : MethsIn w (ms ++ [(x, nilV, [])]) W := by
 refine ⟨fun m hm => ?_, ?_, ?_⟩
 ·rcases List.mem_append.1 hm with hm | hm
  ·exact h.1 m hm
  ·simp only [List.mem_singleton] at hm
   subst hm
   exact .inl ⟨hx, rfl, rfl⟩
 ·have := h.2.1
  simpa [Meths.foot] using this
 ·have := h.2.2
  simpa [Meths.foot] using this
theorem MethsIn.written {w W : World} {ms : Meths} (h : MethsIn w ms W) (x : MethL) (b c : Nat) (cur : Array Value) (hh : W.heap[b]? = some (.cells cur 110 (0, 0))) (hc : cur.toList = (x.code.map InsL.row).flatten) (hb : w.heap.size + 1 ≤ b) (hn : b ∉ ms.foot) : MethsIn w (ms ++ [(x, .slice (some ⟨b, 0, none⟩) x.code.length c, [b])]) W := by
 refine ⟨fun m hm => ?_, ?_, ?_⟩
 ·rcases List.mem_append.1 hm with hm | hm
  ·exact h.1 m hm
  ·simp only [List.mem_singleton] at hm
   subst hm
   exact insF_list x.code hh hc
 ·have e : Meths.foot (ms ++ [(x, .slice (some ⟨b, 0, none⟩) x.code.length c, [b])]) = ms.foot ++ [b] := by simp [Meths.foot]
  rw [e, List.nodup_append]
  exact ⟨h.2.1, by simp, fun a ha b' hb' e2 => by simp only [List.mem_singleton] at hb'; subst e2; subst hb'; exact hn ha⟩
 ·have e : Meths.foot (ms ++ [(x, .slice (some ⟨b, 0, none⟩) x.code.length c, [b])]) = ms.foot ++ [b] := by simp [Meths.foot]
  rw [e]
  intro d hd
  rcases List.mem_append.1 hd with hd | hd
  ·exact h.2.2 d hd
  ·simp only [List.mem_singleton] at hd; omega
theorem MethsIn.fresh {w W : World} {ms : Meths} (h : MethsIn w ms W) : W.heap.size ∉ ms.foot := fun hb => Nat.lt_irrefl _ (h.lt _ hb)
theorem MethsIn.writtenA {w W W' : World} {ms : Meths} (h : MethsIn w ms W) (x : MethL) (c : Nat) (cur : Array Value) (hb : Below (W.alloc (.cells cur 110)).heap.size (W.alloc (.cells cur 110)) W') (hc : cur.toList = (x.code.map InsL.row).flatten) (hw : w.heap.size + 1 ≤ W.heap.size) :
  MethsIn w (ms ++ [(x, .slice (some ⟨W.heap.size, 0, none⟩) x.code.length c, [W.heap.size])]) W' :=
 ((h.call (below_1 _ _)).call hb).written x W.heap.size c cur ((hb.block _ (heap_lt (heap_alloc_new W _))).trans (heap_alloc_new W _)) hc hw h.fresh
theorem MethsIn.writtenB {w W W' : World} {ms : Meths} (h : MethsIn w ms W) (x : MethL) (b c : Nat) (cur : Array Value) (he : b = W.heap.size) (hb : Below (W.alloc (.cells cur 110)).heap.size (W.alloc (.cells cur 110)) W') (hc : cur.toList = (x.code.map InsL.row).flatten) (hw : w.heap.size + 1 ≤ W.heap.size) :
  MethsIn w (ms ++ [(x, .slice (some ⟨b, 0, none⟩) x.code.length c, [b])]) W' := by
 subst he
 exact h.writtenA x c cur hb hc hw
structure Own7 (w W : World) : Prop where
 hb : Below w.heap.size w W
 sz : w.heap.size + 1 ≤ W.heap.size
 th : W.there w.heap.size 0 7
theorem Own7.call {w W W' : World} (h : Own7 w W) (hb : Below W.heap.size W W') : Own7 w W' := ⟨below_on h.hb hb, Nat.le_trans h.sz hb.size, there_kept hb (by have := h.sz; omega) h.th⟩
theorem Own7.start (w : World) (a0 a1 a2 a3 a4 a5 a6 : Value) (t : TypeId) : Own7 w (w.alloc (.cells #[a0, a1, a2, a3, a4, a5, a6] t)) := ⟨below_1 _ _, by simp, there_heap (heap_alloc_new w _)⟩
theorem classOwn_mk {w W : World} (hO : Own7 w W) {ms : Meths} (hM : MethsIn w ms W) (M : Array Value) (n s : ByteArray) (f : Int) (hc : M.toList = (ms.map fun m => m.1.row m.2.1).flatten) (c : Nat) (row : List Value) (hrow : row = [.string n, .string s, nilV, .int .i64 f, nilV, nilV, .slice (some ⟨W.heap.size, 0, none⟩) ms.length c]) :
  ClassOwn w ((W.alloc (.cells M 91)).setCells w.heap.size 0 row) row ⟨n, s, f, [], ms.map (·.1)⟩ := by
 have hsz := hO.sz
 have hE : EqOn ms.foot W ((W.alloc (.cells M 91)).setCells w.heap.size 0 row) := fun b hb => by
  rw [heap_setCells _ _ _ _ _ (by have := hM.2.2 b hb; omega)]
  exact (below_1 W _).block b (hM.lt b hb)
 have hh : ((W.alloc (.cells M 91)).setCells w.heap.size 0 row).heap[W.heap.size]? = some (.cells M 91 (0, 0)) := by
  rw [heap_setCells _ _ _ _ _ (by omega)]
  exact heap_alloc_new W _
 refine ⟨[] ++ W.heap.size :: ms.foot, ⟨nilV, _, [], _, hrow, .inl ⟨rfl, rfl, rfl⟩, methF_list ms hh hc (fun m hm => (hM.1 m hm).kept InsF.good fun b hb => hE b (List.mem_flatten.2 ⟨m.2.2, List.mem_map.2 ⟨m, hm, rfl⟩, hb⟩)), rfl⟩, ?_, ?_⟩
 ·simp only [List.nil_append, List.nodup_cons]
  exact ⟨hM.fresh, hM.2.1⟩
 ·intro b hb
  simp only [List.nil_append, List.mem_cons] at hb
  rcases hb with rfl | hb
  ·omega
  ·have := hM.2.2 b hb; omega
end Go.Proofs.YtjjccimeikkogaaGreatDoor.Bt
