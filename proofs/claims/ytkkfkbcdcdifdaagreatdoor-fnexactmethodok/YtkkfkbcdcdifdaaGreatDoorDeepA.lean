/- Lists of records in memory: what a slice of them holds, how that is kept, how a copy is filled. -/
import Derived.Test.YtkkfkbcdcdifdaaGreatDoorRows
import Derived.WalkKit
import Derived.ProofKit
import Derived.Below
import Derived.Deep.MidRow
namespace Go.Proofs.YtkkfkbcdcdifdaaGreatDoor
set_option linter.unusedVariables false
open Go.RowKit

/-- In the blocks from lo up to hi both worlds hold the same. -/
def Same (lo hi : Nat) (w w' : World) : Prop := ∀ p : Addr, lo ≤ p.block → p.block < hi → w'.cell? p = w.cell? p
theorem Same.refl (lo hi : Nat) (w : World) : Same lo hi w w := fun _ _ _ => rfl
theorem Same.mono {lo hi lo' hi' : Nat} {w w' : World} (h : Same lo hi w w') (h1 : lo ≤ lo') (h2 : hi' ≤ hi) : Same lo' hi' w w' := fun p hp hq => h p (by omega) (by omega)
theorem Same.trans {lo hi : Nat} {a b c : World} (h : Same lo hi a b) (k : Same lo hi b c) : Same lo hi a c := fun p hp hq => (k p hp hq).trans (h p hp hq)
theorem Same.below {B : Nat} {w w' : World} (h : Below B w w') : Same 0 B w w' := fun p _ hp => h.cell hp
theorem Same.setCells (w : World) (g o : Nat) (vs : List Value) {lo hi : Nat} (h : g < lo ∨ hi ≤ g) : Same lo hi w (w.setCells g o vs) := fun p hp hq => by
  rw [World.cell?_setCells_out g vs o w p (fun hb _ => by omega)]
theorem size_setCells (b : Nat) : ∀ (vs : List Value) (o : Nat) (w : World), (w.setCells b o vs).heap.size = w.heap.size
  | [], _, _ => rfl
  | v :: r, o, w => by rw [World.setCells, size_setCells b r]; simp [World.setCell]
theorem below_setCells {B : Nat} {a : World} (b : Nat) (hb : B ≤ b) : ∀ (vs : List Value) (o : Nat) (w : World), Below B a w → Below B a (w.setCells b o vs)
  | [], _, _, h => h
  | v :: r, o, w, h => by rw [World.setCells]; exact below_setCells b hb r (o + 1) _ (h.setCell (p := ⟨b, o, none⟩) hb v)

/-- How an element's cells are read: own memory or not, in blocks from lo up to hi. -/
abbrev Rd (α : Type) := Bool → Nat → Nat → World → List Value → α → Prop
def Stable {α : Type} (R : Rd α) : Prop := ∀ own lo hi lo' hi' w w' row x, R own lo hi w row x → lo' ≤ lo → hi ≤ hi' → Same lo hi w w' → R own lo' hi' w' row x

/-- The slice v holds the list xs: k cells an element. -/
def ListAt {α : Type} (R : Rd α) (k : Nat) (own : Bool) (lo hi : Nat) (w : World) (v : Value) (xs : List α) : Prop :=
  (own = false ∧ xs = [] ∧ ∃ a c, v = .slice a 0 c) ∨ ∃ b off c, v = .slice (some ⟨b, off, none⟩) xs.length c ∧ lo ≤ b ∧ b < hi ∧ (own = true → off = 0) ∧ ∀ j (h : j < xs.length), ∃ row, row.length = k ∧ w.rangeAt b (off + j * k) row ∧ R own lo hi w row xs[j]

theorem rangeAt_same {lo hi : Nat} {w w' : World} (hs : Same lo hi w w') {b o : Nat} {cs : List Value} (h1 : lo ≤ b) (h2 : b < hi) (h : w.rangeAt b o cs) : w'.rangeAt b o cs := fun j v hv => by
  rw [hs ⟨b, o + j, none⟩ h1 h2]; exact h j v hv

theorem ListAt.kept {α : Type} {R : Rd α} (hR : Stable R) {k : Nat} {own : Bool} {lo hi lo' hi' : Nat} {w w' : World} {v : Value} {xs : List α} (h : ListAt R k own lo hi w v xs) (h1 : lo' ≤ lo) (h2 : hi ≤ hi') (hs : Same lo hi w w') : ListAt R k own lo' hi' w' v xs := by
  rcases h with h | ⟨b, off, c, hv, hlo, hhi, ho, hc⟩
  · exact .inl h
  · refine .inr ⟨b, off, c, hv, by omega, by omega, ho, fun j hj => ?_⟩
    obtain ⟨row, hl, hr, hx⟩ := hc j hj
    exact ⟨row, hl, rangeAt_same hs hlo hhi hr, hR _ _ _ _ _ _ _ _ _ hx h1 h2 hs⟩
theorem ListAt.form {α : Type} {R : Rd α} {k : Nat} {own : Bool} {lo hi : Nat} {w : World} {v : Value} {xs : List α} (h : ListAt R k own lo hi w v xs) : ∃ a c, v = .slice a xs.length c := by
  rcases h with ⟨_, rfl, a, c, hv⟩ | ⟨b, off, c, hv, _⟩
  · exact ⟨a, c, hv⟩
  · exact ⟨_, _, hv⟩
theorem ListAt.at {α : Type} {R : Rd α} {k : Nat} {own : Bool} {lo hi : Nat} {w : World} {a : Option Addr} {n c : Nat} {xs : List α} (h : ListAt R k own lo hi w (.slice a n c) xs) (j : Nat) (hj : j < xs.length) :
    ∃ b off row, a = some ⟨b, off, none⟩ ∧ b < hi ∧ row.length = k ∧ w.rangeAt b (off + j * k) row ∧ R own lo hi w row xs[j] := by
  rcases h with ⟨_, h0, _⟩ | ⟨b, off, c', hv, hlo, hhi, ho, hc⟩
  · rw [h0] at hj; simp at hj
  · injection hv with h1
    obtain ⟨row, hl, hr, hx⟩ := hc j hj
    exact ⟨b, off, row, h1, hhi, hl, hr, hx⟩

/-- A row of the call's own, the block right behind what was there: its first m elements are filled. -/
def FilledL {α : Type} (R : Rd α) (k : Nat) (xs : List α) (w : World) (m : Nat) (wr : World) : Prop :=
  Below w.heap.size w wr ∧ w.heap.size < wr.heap.size ∧ wr.there w.heap.size 0 (xs.length * k) ∧ ∀ j (h : j < xs.length), j < m → ∃ row, row.length = k ∧ wr.rangeAt w.heap.size (j * k) row ∧ R true (w.heap.size + 1) wr.heap.size wr row xs[j]

theorem FilledL.start {α : Type} {R : Rd α} {k : Nat} {xs : List α} {w w1 : World} {e : TypeId} {cells : List Value} (hown : w1.ownsRow w.heap.size e k (.slice (some ⟨w.heap.size, 0, none⟩) xs.length xs.length) xs.length cells) (hgrow : w.grownBy w1 none) : FilledL R k xs w 0 w1 := by
  have hb1 : Below w.heap.size w w1 := (Below.refl _ _).grown hgrow (Nat.le_refl _) (fun j hj => by cases hj)
  refine ⟨hb1, (hown.lt _ rfl).2, fun j hj => ?_, fun j _ h => absurd h (by omega)⟩
  obtain ⟨hlen, hrest⟩ := hown
  rcases hrest with ⟨hv, _⟩ | ⟨g, cap, cur, hv, _, hh, _, _, hsz, _⟩
  · cases hv
  · injection hv with h1 h2 h3
    injection h1 with h1
    injection h1 with h1
    subst h1
    have hj' : j < cur.size := by rw [hsz, ← h3]; exact hj
    constructor
    · simp [World.cell?, hh, hj']
    · simp [World.frozen?, hh]

theorem there_part {w : World} {g n o k : Nat} (h : w.there g 0 n) (hk : o + k ≤ n) : w.there g o k := fun j hj => by
  have := h (o + j) (by omega)
  simpa using this
theorem there_kept {B : Nat} {w w' : World} (hb : Below B w w') {g o n : Nat} (hg : g < B) (h : w.there g o n) : w'.there g o n := fun j hj => by
  obtain ⟨h1, h2⟩ := h j hj
  exact ⟨by rw [hb.cell (p := ⟨g, o + j, none⟩) hg]; exact h1, by rw [hb.frozen (p := ⟨g, o + j, none⟩) hg]; exact h2⟩

theorem FilledL.room {α : Type} {R : Rd α} {k : Nat} {xs : List α} {w wr w1 : World} {m : Nat} (h : FilledL R k xs w m wr) (hm : m < xs.length) (hb : Below wr.heap.size wr w1) : w1.there w.heap.size (m * k) k :=
  there_part (there_kept hb h.2.1 h.2.2.1) (by
    have : (m + 1) * k ≤ xs.length * k := Nat.mul_le_mul_right k hm
    rw [Nat.add_mul] at this; omega)

theorem FilledL.next {α : Type} {R : Rd α} (hR : Stable R) {k : Nat} {xs : List α} {w wr w1 : World} {m : Nat} {row : List Value} (h : FilledL R k xs w m wr) (hm : m < xs.length) (hb : Below wr.heap.size wr w1) (hlen : row.length = k)
    (hr : R true wr.heap.size w1.heap.size w1 row xs[m]) : FilledL R k xs w (m + 1) (w1.setCells w.heap.size (m * k) row) := by
  have hroom := h.room hm hb
  obtain ⟨h1, h2, h3, h4⟩ := h
  have hle := h1.size
  have hle1 := hb.size
  refine ⟨below_setCells _ (Nat.le_refl _) _ _ _ (h1.trans (hb.mono hle)), by rw [size_setCells]; omega, World.there_setCells (there_kept hb h2 h3) _ _ _, fun j hj hlt => ?_⟩
  by_cases e : j = m
  · subst e
    refine ⟨row, hlen, World.rangeAt_setCells_same _ _ _ _ (by rw [hlen]; exact hroom), ?_⟩
    rw [size_setCells]
    exact hR _ _ _ _ _ _ _ _ _ hr (by omega) (Nat.le_refl _) (Same.setCells _ _ _ _ (by omega))
  · obtain ⟨r, hrl, hrr, hrx⟩ := h4 j hj (by omega)
    refine ⟨r, hrl, World.rangeAt_setCells_apart (rangeAt_same (Same.below hb) (Nat.zero_le _) h2 hrr) _ _ _ (.inr (.inl ?_)), ?_⟩
    · rw [hrl]
      have : (j + 1) * k ≤ m * k := Nat.mul_le_mul_right k (by omega)
      rw [Nat.add_mul] at this; omega
    · rw [size_setCells]
      exact hR _ _ _ _ _ _ _ _ _ (hR _ _ _ _ _ _ _ _ _ hrx (Nat.le_refl _) hle1 ((Same.below hb).mono (Nat.zero_le _) (Nat.le_refl _))) (Nat.le_refl _) (Nat.le_refl _) (Same.setCells _ _ _ _ (by omega))

theorem FilledL.done {α : Type} {R : Rd α} (hR : Stable R) {k : Nat} {xs : List α} {w wr : World} {m : Nat} (h : FilledL R k xs w m wr) (hm : m = xs.length) : ListAt R k true w.heap.size wr.heap.size wr (.slice (some ⟨w.heap.size, 0, none⟩) xs.length xs.length) xs := by
  obtain ⟨h1, h2, h3, h4⟩ := h
  refine .inr ⟨_, _, _, rfl, Nat.le_refl _, h2, fun _ => rfl, fun j hj => ?_⟩
  obtain ⟨r, hrl, hrr, hrx⟩ := h4 j hj (by omega)
  exact ⟨r, hrl, by rw [Nat.zero_add]; exact hrr, hR _ _ _ _ _ _ _ _ _ hrx (by omega) (Nat.le_refl _) (Same.refl _ _ _)⟩

/-! ### What is read: numbers, texts, instructions, handlers, frames, lines, methods -/
def IntR : Rd Int := fun _ _ _ _ row z => row = [.int .i64 z]
def StrR : Rd ByteArray := fun _ _ _ _ row s => row = [.string s]
theorem IntR.stable : Stable IntR := fun _ _ _ _ _ _ _ _ _ h _ _ _ => h
theorem StrR.stable : Stable StrR := fun _ _ _ _ _ _ _ _ _ h _ _ _ => h
structure InsL where
  o : Int
  k : Int
  a : Int
  b : Int
  T : ByteArray
  C : ByteArray
  N : ByteArray
  Y : ByteArray
  zs : List Int
structure HandL where
  fr : Int
  to : Int
  at' : Int
  ty : ByteArray
structure FrameL where
  at' : Int
  locs : List ByteArray
  stk : List ByteArray
structure LineL where
  at' : Int
  n : Int
structure MethL where
  name : ByteArray
  sig : ByteArray
  flags : Int
  stack : Int
  locals : Int
  code : List InsL
  hands : List HandL
  frames : List FrameL
  lines : List LineL
def InsR : Rd InsL := fun own lo hi w row x => ∃ v, row = [.int .i64 x.o, .int .i64 x.k, .int .i64 x.a, .int .i64 x.b, .string x.T, .string x.C, .string x.N, .string x.Y, v] ∧ ListAt IntR 1 own lo hi w v x.zs
def HandR : Rd HandL := fun own lo hi w row x => row = [.int .i64 x.fr, .int .i64 x.to, .int .i64 x.at', .string x.ty]
def FrameR : Rd FrameL := fun own lo hi w row x => ∃ u v, row = [.int .i64 x.at', u, v] ∧ ListAt StrR 1 own lo hi w u x.locs ∧ ListAt StrR 1 own lo hi w v x.stk
def LineR : Rd LineL := fun own lo hi w row x => row = [.int .i64 x.at', .int .i64 x.n]
def MethR : Rd MethL := fun own lo hi w row x => ∃ c h f l, row = [.string x.name, .string x.sig, .int .i64 x.flags, .int .i64 x.stack, .int .i64 x.locals, c, h, f, l] ∧ ListAt InsR 9 own lo hi w c x.code ∧ ListAt HandR 4 own lo hi w h x.hands ∧ ListAt FrameR 3 own lo hi w f x.frames ∧ ListAt LineR 2 own lo hi w l x.lines
theorem InsR.stable : Stable InsR := fun _ _ _ _ _ _ _ _ _ ⟨v, hv, hx⟩ h1 h2 hs => ⟨v, hv, hx.kept IntR.stable h1 h2 hs⟩
theorem HandR.stable : Stable HandR := fun _ _ _ _ _ _ _ _ _ h _ _ _ => h
theorem FrameR.stable : Stable FrameR := fun _ _ _ _ _ _ _ _ _ ⟨u, v, hv, hx, hy⟩ h1 h2 hs => ⟨u, v, hv, hx.kept StrR.stable h1 h2 hs, hy.kept StrR.stable h1 h2 hs⟩
theorem LineR.stable : Stable LineR := fun _ _ _ _ _ _ _ _ _ h _ _ _ => h
theorem MethR.stable : Stable MethR := fun _ _ _ _ _ _ _ _ _ ⟨c, h, f, l, hv, hx, hy, hz, hl⟩ h1 h2 hs => ⟨c, h, f, l, hv, hx.kept InsR.stable h1 h2 hs, hy.kept HandR.stable h1 h2 hs, hz.kept FrameR.stable h1 h2 hs, hl.kept LineR.stable h1 h2 hs⟩
end Go.Proofs.YtkkfkbcdcdifdaaGreatDoor
