/- Lists of records with the blocks that they take up. -/
import Derived.Test.YtnoffenkmcmpfaaDoorRows
import Derived.WalkKit
import Derived.ProofKit
import Derived.Below
import Derived.Deep.MidRow
import Derived.Deep.QuietTactic
import Derived.Deep.Light
import Derived.OwnWalk
import Derived.Deep.RegionHeld3
import Derived.Deep.DeepCutAuto
import Derived.Laws.OwnMore
namespace Go.Proofs.YtnoffenkmcmpfaaDoor
set_option linter.unusedVariables false
open Go.ChangeShapes Go.WideShapes Go.ChangeAt Go.RowKit

theorem size_setCells (b : Nat) : ∀ (vs : List Value) (o : Nat) (w : World), (w.setCells b o vs).heap.size = w.heap.size
  | [], _, _ => rfl
  | v :: r, o, w => by rw [World.setCells, size_setCells b r]; simp [World.setCell]
theorem below_setCells {B : Nat} {a : World} (b : Nat) (hb : B ≤ b) : ∀ (vs : List Value) (o : Nat) (w : World), Below B a w → Below B a (w.setCells b o vs)
  | [], _, _, h => h
  | v :: r, o, w, h => by rw [World.setCells]; exact below_setCells b hb r (o + 1) _ (h.setCell (p := ⟨b, o, none⟩) hb v)
theorem heap_setCells (b : Nat) : ∀ (vs : List Value) (o : Nat) (w : World) (k : Nat), k ≠ b → (w.setCells b o vs).heap[k]? = w.heap[k]?
  | [], _, _, _, _ => rfl
  | v :: r, o, w, k, h => by rw [World.setCells, heap_setCells b r _ _ _ h, Below.heap_setCell _ _ _ _ h]
theorem rangeAt_heap {w : World} {g : Nat} {cs : Array Value} {t : TypeId} {fr : Nat × Nat} (h : w.heap[g]? = some (.cells cs t fr)) : w.rangeAt g 0 cs.toList := fun j v hv => by
  rw [Nat.zero_add]
  simpa [World.cell?, h] using hv
theorem there_heap {w : World} {g : Nat} {cs : Array Value} {t : TypeId} (h : w.heap[g]? = some (.cells cs t (0, 0))) : w.there g 0 cs.size := fun j hj => by
  rw [Nat.zero_add]
  constructor
  · simp [World.cell?, h, hj]
  · simp [World.frozen?, h]
theorem there_kept {B : Nat} {w w' : World} (hb : Below B w w') {g o n : Nat} (hg : g < B) (h : w.there g o n) : w'.there g o n := fun j hj => by
  obtain ⟨h1, h2⟩ := h j hj
  exact ⟨by rw [hb.cell (p := ⟨g, o + j, none⟩) hg]; exact h1, by rw [hb.frozen (p := ⟨g, o + j, none⟩) hg]; exact h2⟩
theorem rangeAt_kept {B : Nat} {w w' : World} (hb : Below B w w') {g o : Nat} {cs : List Value} (hg : g < B) (h : w.rangeAt g o cs) : w'.rangeAt g o cs := fun j v hv => by
  rw [hb.cell (p := ⟨g, o + j, none⟩) hg]; exact h j v hv
theorem below_1 (w : World) (a : Obj) : Below w.heap.size w (w.alloc a) := (Below.refl _ _).alloc (Nat.le_refl _) _
theorem below_2 (w : World) (a b : Obj) : Below w.heap.size w ((w.alloc a).alloc b) := ((Below.refl _ _).alloc (Nat.le_refl _) _).alloc (by simp) _
theorem below_on {w W w' : World} (h : Below w.heap.size w W) (h2 : Below W.heap.size W w') : Below w.heap.size w w' := h.trans (h2.mono h.size)
theorem below_drewN {B : Nat} {w w' : World} (h : Below B w w') (n : Nat) : Below B w (w'.drewN n) := by
  induction n with
  | zero => exact h
  | succ n ih => exact ih.drew
theorem grown_below {w w' : World} (h : Below w.heap.size w w') : w.grownBy w' none := ⟨h.os, h.tape, h.output, h.size, fun k hk _ => h.block k hk⟩
def OneCells (row : List Value) : Prop := row.all (·.oneCell') = true
theorem OneCells.all {row : List Value} (h : OneCells row) : row.toArray.all (·.oneCell') = true := all_oneCell_toArray (by simpa [OneCells] using h)
theorem results_cell_mid {fn : Func} {p : Tmp} {ty : TypeId} (h : fn.results = #[.cell p ty]) (tmps : Array Value) (w : World) (g : Nat) (cs : List Value) (d : TypeDesc)
    (hp : tmps.getD p undef = .pointer (some ⟨g, 0, none⟩)) (hc : w.rangeAt g 0 cs)
    (hu : Tryd.prog.underlying ty = some d) (hd : d.isRow = true) (hi : (Tryd.prog.info? ty).map (·.size) = some cs.length) :
    (results fn tmps).run Tryd.prog w = .ok (.agg cs.toArray) w := by
  have hp' : tmps[p]?.getD undef = .pointer (some ⟨g, 0, none⟩) := by simpa using hp
  simp [results, h, hp', asAddr, run_loadVar_mid w g 0 ty cs d hc hu hd hi]

/-- The blocks of F hold the same in both worlds. -/
def EqOn (F : List Nat) (w w' : World) : Prop := ∀ b ∈ F, w'.heap[b]? = w.heap[b]?
theorem EqOn.below {F : List Nat} {B : Nat} {w w' : World} (h : Below B w w') (hF : ∀ b ∈ F, b < B) : EqOn F w w' := fun b hb => h.block b (hF b hb)
/-- How an element's cells are read, and which blocks it takes up. -/
abbrev RdF (α : Type) := World → List Value → α → List Nat → Prop
structure GoodF {α : Type} (R : RdF α) : Prop where
  stab : ∀ {w w' : World} {row : List Value} {x : α} {F : List Nat}, R w row x F → EqOn F w w' → R w' row x F
  lt : ∀ {w : World} {row : List Value} {x : α} {F : List Nat}, R w row x F → ∀ b ∈ F, b < w.heap.size
theorem heap_lt {w : World} {b : Nat} {o : Obj} (h : w.heap[b]? = some o) : b < w.heap.size := (Array.getElem?_eq_some_iff.1 h).1
/-- The slice v holds the list xs: k cells an element, elements of type t; F: the blocks, its own first. -/
def ListF {α : Type} (R : RdF α) (k : Nat) (t : TypeId) (w : World) (v : Value) (xs : List α) (F : List Nat) : Prop :=
  (xs = [] ∧ v = .slice none 0 0 ∧ F = []) ∨ ∃ b c Fs cur, v = .slice (some ⟨b, 0, none⟩) xs.length c ∧ F = b :: List.flatten Fs ∧ Fs.length = xs.length ∧ w.heap[b]? = some (.cells cur t (0, 0)) ∧ xs.length * k ≤ cur.size ∧
    ∀ j (h : j < xs.length), ∃ row, row.length = k ∧ w.rangeAt b (j * k) row ∧ R w row xs[j] (Fs[j]?.getD [])
theorem mem_flat {Fs : List (List Nat)} {j c : Nat} (h : c ∈ Fs[j]?.getD []) : c ∈ List.flatten Fs := by
  cases e : Fs[j]? with
  | none => rw [e] at h; cases h
  | some G => rw [e] at h; exact List.mem_flatten.2 ⟨G, List.mem_of_getElem? e, h⟩
theorem rangeAt_block {w w' : World} {b o : Nat} {cs : List Value} (h : w'.heap[b]? = w.heap[b]?) (hr : w.rangeAt b o cs) : w'.rangeAt b o cs := fun j v hv => by
  rw [World.cell?_of_block (w := w) h]; exact hr j v hv
theorem ListF.good {α : Type} {R : RdF α} (hR : GoodF R) (k : Nat) (t : TypeId) : GoodF (fun w row (xs : List α) F => ∃ v, row = [v] ∧ ListF R k t w v xs F) := by
  constructor
  · rintro w w' row xs F ⟨v, rfl, h⟩ he
    refine ⟨v, rfl, ?_⟩
    rcases h with h | ⟨b, c, Fs, cur, hv, rfl, hl, hh, hs, hc⟩
    · exact .inl h
    · have hb := he b (by simp)
      refine .inr ⟨b, c, Fs, cur, hv, rfl, hl, hb.trans hh, hs, fun j hj => ?_⟩
      obtain ⟨row, h1, h2, h3⟩ := hc j hj
      exact ⟨row, h1, rangeAt_block hb h2, hR.stab h3 fun c hcc => he c (by simp only [List.mem_cons]; exact .inr (mem_flat hcc))⟩
  · rintro w row xs F ⟨v, rfl, h⟩
    rcases h with ⟨_, _, rfl⟩ | ⟨b, c, Fs, cur, hv, rfl, hl, hh, hs, hc⟩
    · intro b hb; cases hb
    · intro d hd
      rcases List.mem_cons.1 hd with rfl | hd
      · exact heap_lt hh
      · obtain ⟨G, hG, hdG⟩ := List.mem_flatten.1 hd
        obtain ⟨j, hj, rfl⟩ := List.getElem_of_mem hG
        obtain ⟨row, h1, h2, h3⟩ := hc j (by omega)
        exact hR.lt h3 d (by rw [List.getElem?_eq_getElem hj]; exact hdG)
theorem ListF.kept {α : Type} {R : RdF α} (hR : GoodF R) {k : Nat} {t : TypeId} {w w' : World} {v : Value} {xs : List α} {F : List Nat} (h : ListF R k t w v xs F) (he : EqOn F w w') : ListF R k t w' v xs F := by
  obtain ⟨v', e, h'⟩ := (ListF.good hR k t).stab ⟨v, rfl, h⟩ he
  injection e with e
  subst e
  exact h'
theorem ListF.lt {α : Type} {R : RdF α} (hR : GoodF R) {k : Nat} {t : TypeId} {w : World} {v : Value} {xs : List α} {F : List Nat} (h : ListF R k t w v xs F) : ∀ b ∈ F, b < w.heap.size := (ListF.good hR k t).lt ⟨v, rfl, h⟩
theorem ListF.below {α : Type} {R : RdF α} (hR : GoodF R) {k : Nat} {t : TypeId} {w w' : World} {v : Value} {xs : List α} {F : List Nat} (h : ListF R k t w v xs F) (hb : Below w.heap.size w w') : ListF R k t w' v xs F := h.kept hR (EqOn.below hb (h.lt hR))
theorem ListF.form {α : Type} {R : RdF α} {k : Nat} {t : TypeId} {w : World} {v : Value} {xs : List α} {F : List Nat} (h : ListF R k t w v xs F) : ∃ a c, v = .slice a xs.length c := by
  rcases h with ⟨rfl, rfl, _⟩ | ⟨b, c, Fs, cur, hv, _⟩
  · exact ⟨_, _, rfl⟩
  · exact ⟨_, _, hv⟩
theorem ListF.at {α : Type} {R : RdF α} {k : Nat} {t : TypeId} {w : World} {a : Option Addr} {n c : Nat} {xs : List α} {F : List Nat} (h : ListF R k t w (.slice a n c) xs F) (j : Nat) (hj : j < xs.length) :
    ∃ b row G, a = some ⟨b, 0, none⟩ ∧ b < w.heap.size ∧ row.length = k ∧ w.rangeAt b (j * k) row ∧ w.there b (j * k) k ∧ R w row xs[j] G ∧ b ∈ F ∧ (∀ d ∈ G, d ∈ F) := by
  rcases h with ⟨h0, _⟩ | ⟨b, c', Fs, cur, hv, rfl, hl, hh, hs, hc⟩
  · rw [h0] at hj; simp at hj
  · injection hv with h1
    obtain ⟨row, hl, hr, hx⟩ := hc j hj
    refine ⟨b, row, _, h1, heap_lt hh, hl, hr, fun i hi => ?_, hx, by simp, fun d hd => by simp only [List.mem_cons]; exact .inr (mem_flat hd)⟩
    have : (j + 1) * k ≤ xs.length * k := Nat.mul_le_mul_right k hj
    rw [Nat.add_mul] at this
    have := there_heap hh (j * k + i) (by omega)
    simpa using this

/-! ### What is read -/
structure InsL where
  o : Int
  k : Int
  a : Int
  b : Int
  T : ByteArray
  C : ByteArray
  N : ByteArray
  Y : ByteArray
structure FieldL where
  name : ByteArray
  ty : ByteArray
  flags : Int
structure MethL where
  name : ByteArray
  sig : ByteArray
  flags : Int
  stack : Int
  locals : Int
  code : List InsL
structure ClassL where
  name : ByteArray
  super : ByteArray
  flags : Int
  fields : List FieldL
  meths : List MethL
/-- Records whose other lists are empty (nil). -/
def InsF : RdF InsL := fun w row x F => row = [.int .i64 x.o, .int .i64 x.k, .int .i64 x.a, .int .i64 x.b, .string x.T, .string x.C, .string x.N, .string x.Y, .slice none 0 0] ∧ F = []
def FieldF : RdF FieldL := fun w row x F => row = [.string x.name, .string x.ty, .int .i64 x.flags] ∧ F = []
def MethF : RdF MethL := fun w row x F => ∃ c, row = [.string x.name, .string x.sig, .int .i64 x.flags, .int .i64 x.stack, .int .i64 x.locals, c, .slice none 0 0, .slice none 0 0, .slice none 0 0] ∧ ListF InsF 9 29 w c x.code F
def ClassF : RdF ClassL := fun w row x F => ∃ s t F1 F2, row = [.string x.name, .string x.super, .slice none 0 0, .int .i64 x.flags, .slice none 0 0, s, t] ∧ ListF FieldF 3 46 w s x.fields F1 ∧ ListF MethF 9 36 w t x.meths F2 ∧ F = F1 ++ F2
theorem InsF.good : GoodF InsF := ⟨fun h _ => h, fun h b hb => by rw [h.2] at hb; cases hb⟩
theorem FieldF.good : GoodF FieldF := ⟨fun h _ => h, fun h b hb => by rw [h.2] at hb; cases hb⟩
theorem MethF.good : GoodF MethF := ⟨fun ⟨c, h1, h2⟩ he => ⟨c, h1, h2.kept InsF.good he⟩, fun ⟨c, h1, h2⟩ => h2.lt InsF.good⟩
theorem ClassF.good : GoodF ClassF := by
  constructor
  · rintro w w' row x F ⟨s, t, F1, F2, h1, h2, h3, rfl⟩ he
    exact ⟨s, t, F1, F2, h1, h2.kept FieldF.good fun b hb => he b (by simp [hb]), h3.kept MethF.good fun b hb => he b (by simp [hb]), rfl⟩
  · rintro w row x F ⟨s, t, F1, F2, h1, h2, h3, rfl⟩ b hb
    rcases List.mem_append.1 hb with hb | hb
    · exact h2.lt FieldF.good b hb
    · exact h3.lt MethF.good b hb
end Go.Proofs.YtnoffenkmcmpfaaDoor
