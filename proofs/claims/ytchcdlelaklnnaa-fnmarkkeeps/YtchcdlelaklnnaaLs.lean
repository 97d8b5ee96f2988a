/- Lists of records in memory: what a slice of them holds, how that is kept, how a copy is filled. -/
import Derived.Test.YtchcdlelaklnnaaRows
import Derived.WalkKit
import Derived.ProofKit
import Derived.Below
import Derived.Deep.MidRow
import Derived.Deep.QuietTactic
import Derived.Deep.Light
import Derived.OwnWalk
import Derived.Deep.RegionHeld3
namespace Go.Proofs.Ytchcdlelaklnnaa
set_option linter.unusedVariables false
open Go.ChangeShapes Go.WideShapes Go.ChangeAt Go.RowKit

/-- In the blocks from lo up to hi both worlds hold the same. -/
def Same (lo hi : Nat) (w w' : World) : Prop := ∀ p : Addr, lo ≤ p.block → p.block < hi → w'.cell? p = w.cell? p ∧ w'.frozen? p = w.frozen? p
theorem Same.refl (lo hi : Nat) (w : World) : Same lo hi w w := fun _ _ _ => ⟨rfl, rfl⟩
theorem Same.mono {lo hi lo' hi' : Nat} {w w' : World} (h : Same lo hi w w') (h1 : lo ≤ lo') (h2 : hi' ≤ hi) : Same lo' hi' w w' := fun p hp hq => h p (by omega) (by omega)
theorem Same.trans {lo hi : Nat} {a b c : World} (h : Same lo hi a b) (k : Same lo hi b c) : Same lo hi a c := fun p hp hq => ⟨(k p hp hq).1.trans (h p hp hq).1, (k p hp hq).2.trans (h p hp hq).2⟩
theorem Same.below {B : Nat} {w w' : World} (h : Below B w w') : Same 0 B w w' := fun p _ hp => ⟨h.cell hp, h.frozen hp⟩
theorem frozen_setCells (b : Nat) : ∀ (vs : List Value) (o : Nat) (w : World) (p : Addr), (w.setCells b o vs).frozen? p = w.frozen? p
  | [], _, _, _ => rfl
  | v :: r, o, w, p => by rw [World.setCells, frozen_setCells b r]; simp
theorem Same.setCells (w : World) (g o : Nat) (vs : List Value) {lo hi : Nat} (h : g < lo ∨ hi ≤ g) : Same lo hi w (w.setCells g o vs) := fun p hp hq => by
  exact ⟨World.cell?_setCells_out g vs o w p (fun hb _ => by omega), frozen_setCells g vs o w p⟩
theorem size_setCells (b : Nat) : ∀ (vs : List Value) (o : Nat) (w : World), (w.setCells b o vs).heap.size = w.heap.size
  | [], _, _ => rfl
  | v :: r, o, w => by rw [World.setCells, size_setCells b r]; simp [World.setCell]
theorem below_setCells {B : Nat} {a : World} (b : Nat) (hb : B ≤ b) : ∀ (vs : List Value) (o : Nat) (w : World), Below B a w → Below B a (w.setCells b o vs)
  | [], _, _, h => h
  | v :: r, o, w, h => by rw [World.setCells]; exact below_setCells b hb r (o + 1) _ (h.setCell (p := ⟨b, o, none⟩) hb v)

/-- How an element's cells are read: own memory or not, in blocks from lo up to hi. -/
abbrev Rd (α : Type) := Bool → Nat → Nat → World → List Value → α → Prop
def Stable {α : Type} (R : Rd α) : Prop := ∀ own lo hi lo' hi' w w' row x, R own lo hi w row x → lo' ≤ lo → hi ≤ hi' → Same lo hi w w' → R own lo' hi' w' row x

/-- The slice v holds the list xs: k cells an element. -/
def ListAt {α : Type} (R : Rd α) (k : Nat) (own : Bool) (lo hi : Nat) (w : World) (v : Value) (xs : List α) : Prop :=
  (own = false ∧ xs = [] ∧ ∃ a c, v = .slice a 0 c) ∨ ∃ b off c, v = .slice (some ⟨b, off, none⟩) xs.length c ∧ lo ≤ b ∧ b < hi ∧ (own = true → off = 0 ∧ w.there b 0 (xs.length * k) ∧ xs.length ≤ c) ∧ ∀ j (h : j < xs.length), ∃ row, row.length = k ∧ w.rangeAt b (off + j * k) row ∧ R own lo hi w row xs[j] ∧ (own = true → R true (b + 1) hi w row xs[j])

theorem rangeAt_same {lo hi : Nat} {w w' : World} (hs : Same lo hi w w') {b o : Nat} {cs : List Value} (h1 : lo ≤ b) (h2 : b < hi) (h : w.rangeAt b o cs) : w'.rangeAt b o cs := fun j v hv => by
  rw [(hs ⟨b, o + j, none⟩ h1 h2).1]; exact h j v hv
theorem there_same {lo hi : Nat} {w w' : World} (hs : Same lo hi w w') {b o n : Nat} (h1 : lo ≤ b) (h2 : b < hi) (h : w.there b o n) : w'.there b o n := fun j hj => by
  obtain ⟨e1, e2⟩ := hs ⟨b, o + j, none⟩ h1 h2
  rw [e1, e2]; exact h j hj

theorem ListAt.kept {α : Type} {R : Rd α} (hR : Stable R) {k : Nat} {own : Bool} {lo hi lo' hi' : Nat} {w w' : World} {v : Value} {xs : List α} (h : ListAt R k own lo hi w v xs) (h1 : lo' ≤ lo) (h2 : hi ≤ hi') (hs : Same lo hi w w') : ListAt R k own lo' hi' w' v xs := by
  rcases h with h | ⟨b, off, c, hv, hlo, hhi, ho, hc⟩
  · exact .inl h
  · refine .inr ⟨b, off, c, hv, by omega, by omega, fun h => ⟨(ho h).1, there_same hs hlo hhi (ho h).2.1, (ho h).2.2⟩, fun j hj => ?_⟩
    obtain ⟨row, hl, hr, hx, hy⟩ := hc j hj
    exact ⟨row, hl, rangeAt_same hs hlo hhi hr, hR _ _ _ _ _ _ _ _ _ hx h1 h2 hs, fun h => hR _ _ _ _ _ _ _ _ _ (hy h) (Nat.le_refl _) h2 (hs.mono (by omega) (Nat.le_refl _))⟩
theorem ListAt.form {α : Type} {R : Rd α} {k : Nat} {own : Bool} {lo hi : Nat} {w : World} {v : Value} {xs : List α} (h : ListAt R k own lo hi w v xs) : ∃ a c, v = .slice a xs.length c := by
  rcases h with ⟨_, rfl, a, c, hv⟩ | ⟨b, off, c, hv, _⟩
  · exact ⟨a, c, hv⟩
  · exact ⟨_, _, hv⟩
theorem ListAt.at {α : Type} {R : Rd α} {k : Nat} {own : Bool} {lo hi : Nat} {w : World} {a : Option Addr} {n c : Nat} {xs : List α} (h : ListAt R k own lo hi w (.slice a n c) xs) (j : Nat) (hj : j < xs.length) :
    ∃ b off row, a = some ⟨b, off, none⟩ ∧ b < hi ∧ row.length = k ∧ w.rangeAt b (off + j * k) row ∧ R own lo hi w row xs[j] := by
  rcases h with ⟨_, h0, _⟩ | ⟨b, off, c', hv, hlo, hhi, ho, hc⟩
  · rw [h0] at hj; simp at hj
  · injection hv with h1
    obtain ⟨row, hl, hr, hx, _⟩ := hc j hj
    exact ⟨b, off, row, h1, hhi, hl, hr, hx⟩

/-- A row of the call's own, the block right behind what was there: its first m elements are filled. -/
def FilledL {α : Type} (R : Rd α) (k : Nat) (xs : List α) (w : World) (m : Nat) (wr : World) : Prop :=
  Below w.heap.size w wr ∧ w.heap.size < wr.heap.size ∧ wr.there w.heap.size 0 (xs.length * k) ∧ ∀ j (h : j < xs.length), j < m → ∃ row, row.length = k ∧ wr.rangeAt w.heap.size (j * k) row ∧ R true (w.heap.size + 1) wr.heap.size wr row xs[j]

theorem FilledL.start {α : Type} {R : Rd α} {k : Nat} {xs : List α} {w w1 : World} {e : TypeId} {cells : List Value} (hown : w1.ownsRow w.heap.size e k (.slice (some ⟨w.heap.size, 0, none⟩) xs.length xs.length) xs.length cells) (hgrow : w.grownBy w1 none) : FilledL R k xs w 0 w1 := by
  have hb1 : Below w.heap.size w w1 := (Below.refl _ _).grown hgrow (Nat.le_refl _) (fun j hj => by cases hj)
  refine ⟨hb1, (hown.lt _ rfl).2, fun j hj => ?_, fun j _ h => absurd h (by omega)⟩
  obtain ⟨hlen, hrest⟩ := hown
  rcases hrest with ⟨hv, _⟩ | ⟨g, cap, cur, hv, _, hh, _, _, hsz, _⟩
  · cases hv
  · injection hv with h1 h2 h3
    injection h1 with h1
    injection h1 with h1
    subst h1
    have hj' : j < cur.size := by rw [hsz, ← h3]; exact hj
    constructor
    · simp [World.cell?, hh, hj']
    · simp [World.frozen?, hh]

theorem there_part {w : World} {g n o k : Nat} (h : w.there g 0 n) (hk : o + k ≤ n) : w.there g o k := fun j hj => by
  have := h (o + j) (by omega)
  simpa using this
theorem there_kept {B : Nat} {w w' : World} (hb : Below B w w') {g o n : Nat} (hg : g < B) (h : w.there g o n) : w'.there g o n := fun j hj => by
  obtain ⟨h1, h2⟩ := h j hj
  exact ⟨by rw [hb.cell (p := ⟨g, o + j, none⟩) hg]; exact h1, by rw [hb.frozen (p := ⟨g, o + j, none⟩) hg]; exact h2⟩

theorem FilledL.room {α : Type} {R : Rd α} {k : Nat} {xs : List α} {w wr w1 : World} {m : Nat} (h : FilledL R k xs w m wr) (hm : m < xs.length) (hb : Below wr.heap.size wr w1) : w1.there w.heap.size (m * k) k :=
  there_part (there_kept hb h.2.1 h.2.2.1) (by
    have : (m + 1) * k ≤ xs.length * k := Nat.mul_le_mul_right k hm
    rw [Nat.add_mul] at this; omega)

theorem FilledL.next {α : Type} {R : Rd α} (hR : Stable R) {k : Nat} {xs : List α} {w wr w1 : World} {m : Nat} {row : List Value} (h : FilledL R k xs w m wr) (hm : m < xs.length) (hb : Below wr.heap.size wr w1) (hlen : row.length = k)
    (hr : R true wr.heap.size w1.heap.size w1 row xs[m]) : FilledL R k xs w (m + 1) (w1.setCells w.heap.size (m * k) row) := by
  have hroom := h.room hm hb
  obtain ⟨h1, h2, h3, h4⟩ := h
  have hle := h1.size
  have hle1 := hb.size
  refine ⟨below_setCells _ (Nat.le_refl _) _ _ _ (h1.trans (hb.mono hle)), by rw [size_setCells]; omega, World.there_setCells (there_kept hb h2 h3) _ _ _, fun j hj hlt => ?_⟩
  by_cases e : j = m
  · subst e
    refine ⟨row, hlen, World.rangeAt_setCells_same _ _ _ _ (by rw [hlen]; exact hroom), ?_⟩
    rw [size_setCells]
    exact hR _ _ _ _ _ _ _ _ _ hr (by omega) (Nat.le_refl _) (Same.setCells _ _ _ _ (by omega))
  · obtain ⟨r, hrl, hrr, hrx⟩ := h4 j hj (by omega)
    refine ⟨r, hrl, World.rangeAt_setCells_apart (rangeAt_same (Same.below hb) (Nat.zero_le _) h2 hrr) _ _ _ (.inr (.inl ?_)), ?_⟩
    · rw [hrl]
      have : (j + 1) * k ≤ m * k := Nat.mul_le_mul_right k (by omega)
      rw [Nat.add_mul] at this; omega
    · rw [size_setCells]
      exact hR _ _ _ _ _ _ _ _ _ (hR _ _ _ _ _ _ _ _ _ hrx (Nat.le_refl _) hle1 ((Same.below hb).mono (Nat.zero_le _) (Nat.le_refl _))) (Nat.le_refl _) (Nat.le_refl _) (Same.setCells _ _ _ _ (by omega))

theorem FilledL.done {α : Type} {R : Rd α} (hR : Stable R) {k : Nat} {xs : List α} {w wr : World} {m : Nat} (h : FilledL R k xs w m wr) (hm : m = xs.length) : ListAt R k true w.heap.size wr.heap.size wr (.slice (some ⟨w.heap.size, 0, none⟩) xs.length xs.length) xs := by
  obtain ⟨h1, h2, h3, h4⟩ := h
  refine .inr ⟨_, _, _, rfl, Nat.le_refl _, h2, fun _ => ⟨rfl, h3, Nat.le_refl _⟩, fun j hj => ?_⟩
  obtain ⟨r, hrl, hrr, hrx⟩ := h4 j hj (by omega)
  exact ⟨r, hrl, by rw [Nat.zero_add]; exact hrr, hR _ _ _ _ _ _ _ _ _ hrx (by omega) (Nat.le_refl _) (Same.refl _ _ _), fun _ => hrx⟩

def IntR : Rd Int := fun _ _ _ _ row z => row = [.int .i64 z]
def StrR : Rd ByteArray := fun _ _ _ _ row s => row = [.string s]
theorem IntR.stable : Stable IntR := fun _ _ _ _ _ _ _ _ _ h _ _ _ => h
theorem StrR.stable : Stable StrR := fun _ _ _ _ _ _ _ _ _ h _ _ _ => h
def OneCells (row : List Value) : Prop := row.all (·.oneCell') = true
theorem OneCells.all {row : List Value} (h : OneCells row) : row.toArray.all (·.oneCell') = true := all_oneCell_toArray (by simpa [OneCells] using h)

/-- What a copy of one element says. -/
def ElemTo {α : Type} (f k : Nat) (R : Rd α) (base : Nat) (x : α) : Prop := ∀ (W : World) (row : List Value), base ≤ W.heap.size → R false 0 base W row x → row.length = k → Calls Try.prog f #[.agg row.toArray] W fun e w' => ∃ row' : List Value, e = .returned (.agg row'.toArray) ∧ row'.length = k ∧ OneCells row' ∧ R true W.heap.size w'.heap.size w' row' x ∧ Below W.heap.size W w'
theorem rangeAt_heap {w : World} {g : Nat} {cs : Array Value} {t : TypeId} {fr : Nat × Nat} (h : w.heap[g]? = some (.cells cs t fr)) : w.rangeAt g 0 cs.toList := fun j v hv => by
  simp only [World.cell?, Nat.zero_add, h]
  simpa using hv
theorem there_heap {w : World} {g : Nat} {cs : Array Value} {t : TypeId} (h : w.heap[g]? = some (.cells cs t (0, 0))) : w.there g 0 cs.size := fun j hj => by
  constructor
  · simp [World.cell?, h, hj]
  · simp [World.frozen?, h]

theorem heap_mid3 (w : World) (a b c : Obj) : (((w.alloc a).alloc b).alloc c).heap[w.heap.size + 1]? = some b := by
  rw [Below.heap_alloc _ _ _ (by simp)]
  have h := heap_alloc_new (w.alloc a) b
  simpa using h
theorem below_3 (w : World) (a b c : Obj) : Below w.heap.size w (((w.alloc a).alloc b).alloc c) := (((Below.refl _ _).alloc (Nat.le_refl _) _).alloc (by simp) _).alloc (by simp; omega) _

/-- A copy under way: the argument in a block of its own, then the answer's block, then the copy's. -/
structure Rec3 (w W : World) (k : Nat) (I O : List Value) : Prop where
  hb : Below w.heap.size w W
  sz : w.heap.size + 3 ≤ W.heap.size
  inp : W.rangeAt w.heap.size 0 I
  z : W.there (w.heap.size + 1) 0 k
  ot : W.there (w.heap.size + 1 + 1) 0 k
  o : W.rangeAt (w.heap.size + 1 + 1) 0 O
theorem Rec3.start {w W : World} {I Z O : Array Value} {t t' : TypeId} (hW : W = ((w.alloc (.cells I t)).alloc (.cells Z t')).alloc (.cells O t')) {k : Nat} (hz : Z.size = k) (ho : O.size = k) : Rec3 w W k I.toList O.toList := by
  have h2 : W.heap[w.heap.size + 1 + 1]? = some (.cells O t' (0, 0)) := by
    rw [hW]
    have h := heap_alloc_new ((w.alloc (.cells I t)).alloc (.cells Z t')) (.cells O t')
    simpa using h
  have h1 : W.heap[w.heap.size + 1]? = some (.cells Z t' (0, 0)) := by
    rw [hW, Below.heap_alloc _ _ _ (by simp)]
    have h := heap_alloc_new (w.alloc (.cells I t)) (.cells Z t')
    simpa using h
  have h0 : W.heap[w.heap.size]? = some (.cells I t (0, 0)) := by
    rw [hW, Below.heap_alloc _ _ _ (by simp; omega), Below.heap_alloc _ _ _ (by simp)]
    exact heap_alloc_new w _
  subst hz
  refine ⟨?_, by rw [hW]; simp, rangeAt_heap h0, there_heap h1, by rw [← ho]; exact there_heap h2, rangeAt_heap h2⟩
  rw [hW]
  exact (((Below.refl _ _).alloc (Nat.le_refl _) _).alloc (by simp) _).alloc (by simp; omega) _
theorem Rec3.call {w W w1 : World} {k : Nat} {I O : List Value} (h : Rec3 w W k I O) (hb : Below W.heap.size W w1) : Rec3 w w1 k I O := by
  obtain ⟨h1, h2, h3, h4, h5, h6⟩ := h
  have := hb.size
  exact ⟨h1.trans (hb.mono h1.size), by omega, rangeAt_same (Same.below hb) (Nat.zero_le _) (by omega) h3, there_kept hb (by omega) h4, there_kept hb (by omega) h5, rangeAt_same (Same.below hb) (Nat.zero_le _) (by omega) h6⟩
theorem setCells_one (w : World) (b o : Nat) (v : Value) : w.setCells b o [v] = w.setCell ⟨b, o, none⟩ v := rfl
theorem Rec3.set {w W : World} {k : Nat} {I O : List Value} (h : Rec3 w W k I O) (i : Nat) (v : Value) (hi : i < k) (hO : O.length = k) : Rec3 w (W.setCell ⟨w.heap.size + 1 + 1, i, none⟩ v) k I (O.set i v) := by
  obtain ⟨h1, h2, h3, h4, h5, h6⟩ := h
  refine ⟨h1.setCell (p := ⟨w.heap.size + 1 + 1, i, none⟩) (by show w.heap.size ≤ w.heap.size + 1 + 1; omega) v, by simpa [World.setCell] using h2, ?_, ?_, ?_, fun j u hu => ?_⟩
  · rw [← setCells_one]; exact World.rangeAt_setCells_apart h3 _ _ _ (.inl (by omega))
  · rw [← setCells_one]; exact World.there_setCells h4 _ _ _
  · rw [← setCells_one]; exact World.there_setCells h5 _ _ _
  · have hj : j < k := by
      have := (List.getElem?_eq_some_iff.1 hu).1
      simpa [hO] using this
    obtain ⟨q, hq⟩ := Option.isSome_iff_exists.1 (h5 i hi).1
    simp only [Nat.zero_add] at hq ⊢
    by_cases e : j = i
    · subst e
      rw [World.cell?_setCell_same _ _ _ hq]
      rw [List.getElem?_set_self (by omega)] at hu
      exact hu
    · rw [World.cell?_setCell_other _ _ _ _ (fun e2 => e (by injection e2 with _ e3; exact e3.symm))]
      rw [List.getElem?_set_ne (fun e2 => e e2.symm)] at hu
      simpa using h6 j u hu
theorem Rec3.cellI {w W : World} {k : Nat} {I O : List Value} (h : Rec3 w W k I O) (i : Nat) (v : Value) (hv : I[i]? = some v) : W.cell? ⟨w.heap.size, i, none⟩ = some v := by simpa using h.inp i v hv
theorem Rec3.cellO {w W : World} {k : Nat} {I O : List Value} (h : Rec3 w W k I O) (i : Nat) (hi : i < k) : (∃ q, W.cell? ⟨w.heap.size + 1 + 1, i, none⟩ = some q) ∧ W.frozen? ⟨w.heap.size + 1 + 1, i, none⟩ = false := by
  have := h.ot i hi
  simp only [Nat.zero_add] at this
  exact ⟨Option.isSome_iff_exists.1 this.1, this.2⟩
theorem same_setCell (w : World) (g i : Nat) (v : Value) {lo hi : Nat} (h : g < lo ∨ hi ≤ g) : Same lo hi w (w.setCell ⟨g, i, none⟩ v) := by
  rw [← setCells_one]; exact Same.setCells w g i [v] h
theorem size_setCell (w : World) (a : Addr) (v : Value) : (w.setCell a v).heap.size = w.heap.size := by simp [World.setCell]

theorem results_cell_mid {fn : Func} {p : Tmp} {ty : TypeId} (h : fn.results = #[.cell p ty]) (tmps : Array Value) (w : World) (g : Nat) (cs : List Value) (d : TypeDesc)
    (hp : tmps.getD p undef = .pointer (some ⟨g, 0, none⟩)) (hc : w.rangeAt g 0 cs)
    (hu : Try.prog.underlying ty = some d) (hd : d.isRow = true) (hi : (Try.prog.info? ty).map (·.size) = some cs.length) :
    (results fn tmps).run Try.prog w = .ok (.agg cs.toArray) w := by
  have hp' : tmps[p]?.getD undef = .pointer (some ⟨g, 0, none⟩) := by simpa using hp
  simp [results, h, hp', asAddr, run_loadVar_mid w g 0 ty cs d hc hu hd hi]
theorem below_on {w W w' : World} (h : Below w.heap.size w W) (h2 : Below W.heap.size W w') : Below w.heap.size w w' := h.trans (h2.mono h.size)
/-- What holding one element against another says. -/
def ElemEq {α : Type} (f k : Nat) (R : Rd α) (x : α) : Prop := ∀ (W : World) (r1 r2 : List Value) (lo1 hi1 lo2 hi2 : Nat), hi1 ≤ W.heap.size → hi2 ≤ W.heap.size → R true lo1 hi1 W r1 x → R true lo2 hi2 W r2 x → r1.length = k → r2.length = k → Calls Try.prog f #[.agg r1.toArray, .agg r2.toArray] W fun e w' => e = .returned (.bool true) ∧ Below W.heap.size W w'

theorem below_2 (w : World) (a b : Obj) : Below w.heap.size w ((w.alloc a).alloc b) := ((Below.refl _ _).alloc (Nat.le_refl _) _).alloc (by simp) _
theorem below_drewN {B : Nat} {w w' : World} (h : Below B w w') (n : Nat) : Below B w (w'.drewN n) := by
  induction n with
  | zero => exact h
  | succ n ih => exact ih.drew

/-- Two records held against each other: each in a block of its own. -/
structure Rec2 (w W : World) (I J : List Value) : Prop where
  hb : Below w.heap.size w W
  sz : w.heap.size + 2 ≤ W.heap.size
  one : W.rangeAt w.heap.size 0 I
  two : W.rangeAt (w.heap.size + 1) 0 J
theorem Rec2.start {w W : World} {I J : Array Value} {t t' : TypeId} (hW : W = (w.alloc (.cells I t)).alloc (.cells J t')) : Rec2 w W I.toList J.toList := by
  have h1 : W.heap[w.heap.size + 1]? = some (.cells J t' (0, 0)) := by
    rw [hW]
    have h := heap_alloc_new (w.alloc (.cells I t)) (.cells J t')
    simpa using h
  have h0 : W.heap[w.heap.size]? = some (.cells I t (0, 0)) := by
    rw [hW, Below.heap_alloc _ _ _ (by simp)]
    exact heap_alloc_new w _
  exact ⟨by rw [hW]; exact below_2 _ _ _, by rw [hW]; simp, rangeAt_heap h0, rangeAt_heap h1⟩
theorem Rec2.call {w W w1 : World} {I J : List Value} (h : Rec2 w W I J) (hb : Below W.heap.size W w1) : Rec2 w w1 I J := by
  obtain ⟨h1, h2, h3, h4⟩ := h
  have := hb.size
  exact ⟨below_on h1 hb, by omega, rangeAt_same (Same.below hb) (Nat.zero_le _) (by omega) h3, rangeAt_same (Same.below hb) (Nat.zero_le _) (by omega) h4⟩
theorem Rec2.cell1 {w W : World} {I J : List Value} (h : Rec2 w W I J) (i : Nat) (v : Value) (hv : I[i]? = some v) : W.cell? ⟨w.heap.size, i, none⟩ = some v := by simpa using h.one i v hv
theorem Rec2.cell2 {w W : World} {I J : List Value} (h : Rec2 w W I J) (i : Nat) (v : Value) (hv : J[i]? = some v) : W.cell? ⟨w.heap.size + 1, i, none⟩ = some v := by simpa using h.two i v hv
def SzQ (l : Int) (n : Nat) (e : Ending) : Prop := ∃ r, e = .returned (.int .i64 r) ∧ (l < n → r = -1) ∧ (n ≤ l → r = l - n)
theorem SzQ.neg {l : Int} {n : Nat} (h : l < n) : SzQ l n (.returned (.int .i64 (-1))) := ⟨_, rfl, fun _ => rfl, fun h' => by omega⟩
theorem SzQ.pos {l : Int} {n : Nat} {r : Int} (h : n ≤ l) (hr : r = l - n) : SzQ l n (.returned (.int .i64 r)) := ⟨_, rfl, fun h' => by omega, fun _ => hr⟩
theorem below_1 (w : World) (a : Obj) : Below w.heap.size w (w.alloc a) := (Below.refl _ _).alloc (Nat.le_refl _) _
def sumL {α : Type} (f : α → Nat) (xs : List α) : Nat := xs.length + (xs.map f).sum
theorem sum_take {α : Type} (f : α → Nat) : ∀ (xs : List α) (m : Nat) (h : m < xs.length), ((xs.take (m + 1)).map f).sum = ((xs.take m).map f).sum + f xs[m]
  | [], _, h => by simp at h
  | x :: r, 0, _ => by simp
  | x :: r, m + 1, h => by
    have := sum_take f r m (by simpa using h)
    simp only [List.take_succ_cons, List.map_cons, List.sum_cons, List.getElem_cons_succ]
    omega
theorem sum_take_le {α : Type} (f : α → Nat) : ∀ (xs : List α) (m : Nat), ((xs.take m).map f).sum ≤ (xs.map f).sum
  | [], _ => by simp
  | x :: r, 0 => by simp
  | x :: r, m + 1 => by
    have := sum_take_le f r m
    simp only [List.take_succ_cons, List.map_cons, List.sum_cons]
    omega
theorem sum_mem_le {α : Type} (f : α → Nat) : ∀ (xs : List α) (x : α), x ∈ xs → f x ≤ (xs.map f).sum
  | y :: r, x, h => by
    simp only [List.map_cons, List.sum_cons]
    rcases List.mem_cons.1 h with rfl | h
    · omega
    · have := sum_mem_le f r x h; omega

def ElemSz {α : Type} (f k : Nat) (R : Rd α) (sz : α → Nat) (x : α) : Prop := ∀ (W : World) (row : List Value) (own : Bool) (lo hi : Nat) (l : Int), hi ≤ W.heap.size → R own lo hi W row x → row.length = k → 0 ≤ l → l ≤ 1048576 → Calls Try.prog f #[.agg row.toArray, .int .i64 l] W fun e w' => SzQ l (sz x) e ∧ Below W.heap.size W w'

theorem below_on2 {w W w' : World} (h : Below w.heap.size w W) (h2 : Below W.heap.size W w') : Below w.heap.size w w' := h.trans (h2.mono h.size)

/-- A row of lists. -/
def RowR {α : Type} (R : Rd α) (k : Nat) : Rd (List α) := fun own lo hi w row x => ∃ v, row = [v] ∧ ListAt R k own lo hi w v x
theorem RowR.stable {α : Type} {R : Rd α} (hR : Stable R) (k : Nat) : Stable (RowR R k) := fun _ _ _ _ _ _ _ _ _ ⟨v, hv, hx⟩ h1 h2 hs => ⟨v, hv, hx.kept hR h1 h2 hs⟩
theorem FilledL.room1 {α : Type} {R : Rd α} {xs : List α} {w wr w1 : World} {m : Nat} (h : FilledL R 1 xs w m wr) (hm : m < xs.length) (hb : Below wr.heap.size wr w1) : (∃ q, w1.cell? ⟨w.heap.size, m, none⟩ = some q) ∧ w1.frozen? ⟨w.heap.size, m, none⟩ = false := by
  have hroom := h.room hm hb 0 (by omega)
  exact ⟨Option.isSome_iff_exists.1 (by simpa using hroom.1), by simpa using hroom.2⟩
theorem FilledL.next1 {α : Type} {R : Rd α} (hR : Stable R) {xs : List α} {w wr w1 : World} {m : Nat} {v : Value} (h : FilledL R 1 xs w m wr) (hm : m < xs.length) (hb : Below wr.heap.size wr w1) (hr : R true wr.heap.size w1.heap.size w1 [v] xs[m]) : FilledL R 1 xs w (m + 1) (w1.setCell ⟨w.heap.size, m, none⟩ v) := by
  have := h.next hR hm hb rfl hr
  rw [Nat.mul_one] at this; exact this
/-- What a copy, a comparison, a size of a list within a list says. -/
def ListTo {α : Type} (f k : Nat) (R : Rd α) (base : Nat) (x : List α) : Prop := ∀ (W : World) (u : Value), base ≤ W.heap.size → ListAt R k false 0 base W u x → Calls Try.prog f #[u] W fun e w' => ∃ u', e = .returned u' ∧ ListAt R k true W.heap.size w'.heap.size w' u' x ∧ Below W.heap.size W w'
def ListEq {α : Type} (f k : Nat) (R : Rd α) (x : List α) : Prop := ∀ (W : World) (u v : Value) (lo1 hi1 lo2 hi2 : Nat), hi1 ≤ W.heap.size → hi2 ≤ W.heap.size → ListAt R k true lo1 hi1 W u x → ListAt R k true lo2 hi2 W v x → Calls Try.prog f #[u, v] W fun e w' => e = .returned (.bool true) ∧ Below W.heap.size W w'
def ListSz {α : Type} (f k : Nat) (R : Rd α) (sz : List α → Nat) (x : List α) : Prop := ∀ (W : World) (u : Value) (own : Bool) (lo hi : Nat) (l : Int), hi ≤ W.heap.size → ListAt R k own lo hi W u x → 0 ≤ l → l ≤ 1048576 → Calls Try.prog f #[u, .int .i64 l] W fun e w' => SzQ l (sz x) e ∧ Below W.heap.size W w'
end Go.Proofs.Ytchcdlelaklnnaa
