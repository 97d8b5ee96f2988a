import Derived.Test.YtjjccimeikkogaaGreatDoorRows
import Derived.WalkKit
import Derived.ProofKit
import Derived.Below
import Derived.Deep.MidRow
import Derived.Deep.QuietTactic
import Derived.Deep.Light
import Derived.OwnWalk
set_option maxRecDepth 1000000
set_option maxHeartbeats 4000000
namespace Go.Proofs.YtjjccimeikkogaaGreatDoor
set_option linter.unusedVariables false
open Go.RowKit
def Same (lo hi : Nat) (w w' : World) : Prop := ∀ p : Addr, lo ≤ p.block → p.block < hi → w'.cell? p = w.cell? p
theorem Same.refl (lo hi : Nat) (w : World) : Same lo hi w w := fun _ _ _ => rfl
theorem Same.mono {lo hi lo' hi' : Nat} {w w' : World} (h : Same lo hi w w') (h1 : lo ≤ lo') (h2 : hi' ≤ hi) : Same lo' hi' w w' := fun p hp hq => h p (by omega) (by omega)
theorem Same.trans {lo hi : Nat} {a b c : World} (h : Same lo hi a b) (k : Same lo hi b c) : Same lo hi a c := fun p hp hq => (k p hp hq).trans (h p hp hq)
theorem Same.below {B : Nat} {w w' : World} (h : Below B w w') : Same 0 B w w' := fun p _ hp => h.cell hp
theorem Same.setCells (w : World) (g o : Nat) (vs : List Value) {lo hi : Nat} (h : g < lo ∨ hi ≤ g) : Same lo hi w (w.setCells g o vs) := fun p hp hq => by
 rw [World.cell?_setCells_out g vs o w p (fun hb _ => by omega)]
theorem size_setCells (b : Nat) : ∀ (vs : List Value) (o : Nat) (w : World), (w.setCells b o vs).heap.size = w.heap.size
 | [], _, _ => rfl
 | v :: r, o, w => by rw [World.setCells, size_setCells b r]; simp [World.setCell]
theorem below_setCells {B : Nat} {a : World} (b : Nat) (hb : B ≤ b) : ∀ (vs : List Value) (o : Nat) (w : World), Below B a w → Below B a (w.setCells b o vs)
 | [], _, _, h => h
 | v :: r, o, w, h => by rw [World.setCells]; exact below_setCells b hb r (o + 1) _ (h.setCell (p := ⟨b, o, none⟩) hb v)
abbrev Rd (α : Type) := Bool → Nat → Nat → World → List Value → α → Prop
def Stable {α : Type} (R : Rd α) : Prop := ∀ own lo hi lo' hi' w w' row x, R own lo hi w row x → lo' ≤ lo → hi ≤ hi' → Same lo hi w w' → R own lo' hi' w' row x
def ListAt {α : Type} (R : Rd α) (k : Nat) (own : Bool) (lo hi : Nat) (w : World) (v : Value) (xs : List α) : Prop :=
 (own = false ∧ xs = [] ∧ ∃ a c, v = .slice a 0 c) ∨ ∃ b off c, v = .slice (some ⟨b, off, none⟩) xs.length c ∧ lo ≤ b ∧ b < hi ∧ (own = true → off = 0) ∧ ∀ j (h : j < xs.length), ∃ row, row.length = k ∧ w.rangeAt b (off + j * k) row ∧ R own lo hi w row xs[j]
theorem rangeAt_same {lo hi : Nat} {w w' : World} (hs : Same lo hi w w') {b o : Nat} {cs : List Value} (h1 : lo ≤ b) (h2 : b < hi) (h : w.rangeAt b o cs) : w'.rangeAt b o cs := fun j v hv => by
 rw [hs ⟨b, o + j, none⟩ h1 h2]; exact h j v hv
theorem ListAt.kept {α : Type} {R : Rd α} (hR : Stable R) {k : Nat} {own : Bool} {lo hi lo' hi' : Nat} {w w' : World} {v : Value} {xs : List α} (h : ListAt R k own lo hi w v xs) (h1 : lo' ≤ lo) (h2 : hi ≤ hi') (hs : Same lo hi w w') : ListAt R k own lo' hi' w' v xs := by
 rcases h with h | ⟨b, off, c, hv, hlo, hhi, ho, hc⟩
 ·exact .inl h
 ·refine .inr ⟨b, off, c, hv, by omega, by omega, ho, fun j hj => ?_⟩
  obtain ⟨row, hl, hr, hx⟩ := hc j hj
  exact ⟨row, hl, rangeAt_same hs hlo hhi hr, hR _ _ _ _ _ _ _ _ _ hx h1 h2 hs⟩
theorem ListAt.form {α : Type} {R : Rd α} {k : Nat} {own : Bool} {lo hi : Nat} {w : World} {v : Value} {xs : List α} (h : ListAt R k own lo hi w v xs) : ∃ a c, v = .slice a xs.length c := by
 rcases h with ⟨_, rfl, a, c, hv⟩ | ⟨b, off, c, hv, _⟩
 ·exact ⟨a, c, hv⟩
 ·exact ⟨_, _, hv⟩
theorem ListAt.at {α : Type} {R : Rd α} {k : Nat} {own : Bool} {lo hi : Nat} {w : World} {a : Option Addr} {n c : Nat} {xs : List α} (h : ListAt R k own lo hi w (.slice a n c) xs) (j : Nat) (hj : j < xs.length) :
  ∃ b off row, a = some ⟨b, off, none⟩ ∧ b < hi ∧ row.length = k ∧ w.rangeAt b (off + j * k) row ∧ R own lo hi w row xs[j] := by
 rcases h with ⟨_, h0, _⟩ | ⟨b, off, c', hv, hlo, hhi, ho, hc⟩
 ·rw [h0] at hj; simp at hj
 ·injection hv with h1
  obtain ⟨row, hl, hr, hx⟩ := hc j hj
  exact ⟨b, off, row, h1, hhi, hl, hr, hx⟩
def FilledL {α : Type} (R : Rd α) (k : Nat) (xs : List α) (w : World) (m : Nat) (wr : World) : Prop :=
 Below w.heap.size w wr ∧ w.heap.size < wr.heap.size ∧ wr.there w.heap.size 0 (xs.length * k) ∧ ∀ j (h : j < xs.length), j < m → ∃ row, row.length = k ∧ wr.rangeAt w.heap.size (j * k) row ∧ R true (w.heap.size + 1) wr.heap.size wr row xs[j]
theorem FilledL.start {α : Type} {R : Rd α} {k : Nat} {xs : List α} {w w1 : World} {e : TypeId} {cells : List Value} (hown : w1.ownsRow w.heap.size e k (.slice (some ⟨w.heap.size, 0, none⟩) xs.length xs.length) xs.length cells) (hgrow : w.grownBy w1 none) : FilledL R k xs w 0 w1 := by
 have hb1 : Below w.heap.size w w1 := (Below.refl _ _).grown hgrow (Nat.le_refl _) (fun j hj => by cases hj)
 refine ⟨hb1, (hown.lt _ rfl).2, fun j hj => ?_, fun j _ h => absurd h (by omega)⟩
 obtain ⟨hlen, hrest⟩ := hown
 rcases hrest with ⟨hv, _⟩ | ⟨g, cap, cur, hv, _, hh, _, _, hsz, _⟩
 ·cases hv
 ·injection hv with h1 h2 h3
  injection h1 with h1
  injection h1 with h1
  subst h1
  have hj' : j < cur.size := by rw [hsz, ← h3]; exact hj
  constructor
  ·simp [World.cell?, hh, hj']
  ·simp [World.frozen?, hh]
theorem there_part {w : World} {g n o k : Nat} (h : w.there g 0 n) (hk : o + k ≤ n) : w.there g o k := fun j hj => by
 have := h (o + j) (by omega)
 simpa using this
theorem there_kept {B : Nat} {w w' : World} (hb : Below B w w') {g o n : Nat} (hg : g < B) (h : w.there g o n) : w'.there g o n := fun j hj => by
 obtain ⟨h1, h2⟩ := h j hj
 exact ⟨by rw [hb.cell (p := ⟨g, o + j, none⟩) hg]; exact h1, by rw [hb.frozen (p := ⟨g, o + j, none⟩) hg]; exact h2⟩
theorem FilledL.room {α : Type} {R : Rd α} {k : Nat} {xs : List α} {w wr w1 : World} {m : Nat} (h : FilledL R k xs w m wr) (hm : m < xs.length) (hb : Below wr.heap.size wr w1) : w1.there w.heap.size (m * k) k :=
 there_part (there_kept hb h.2.1 h.2.2.1) (by
  have : (m + 1) * k ≤ xs.length * k := Nat.mul_le_mul_right k hm
  rw [Nat.add_mul] at this; omega)
theorem FilledL.next {α : Type} {R : Rd α} (hR : Stable R) {k : Nat} {xs : List α} {w wr w1 : World} {m : Nat} {row : List Value} (h : FilledL R k xs w m wr) (hm : m < xs.length) (hb : Below wr.heap.size wr w1) (hlen : row.length = k)
  (hr : R true wr.heap.size w1.heap.size w1 row xs[m]) : FilledL R k xs w (m + 1) (w1.setCells w.heap.size (m * k) row) := by
 have hroom := h.room hm hb
 obtain ⟨h1, h2, h3, h4⟩ := h
 have hle := h1.size
 have hle1 := hb.size
 refine ⟨below_setCells _ (Nat.le_refl _) _ _ _ (h1.trans (hb.mono hle)), by rw [size_setCells]; omega, World.there_setCells (there_kept hb h2 h3) _ _ _, fun j hj hlt => ?_⟩
 by_cases e : j = m
 ·subst e
  refine ⟨row, hlen, World.rangeAt_setCells_same _ _ _ _ (by rw [hlen]; exact hroom), ?_⟩
  rw [size_setCells]
  exact hR _ _ _ _ _ _ _ _ _ hr (by omega) (Nat.le_refl _) (Same.setCells _ _ _ _ (by omega))
 ·obtain ⟨r, hrl, hrr, hrx⟩ := h4 j hj (by omega)
  refine ⟨r, hrl, World.rangeAt_setCells_apart (rangeAt_same (Same.below hb) (Nat.zero_le _) h2 hrr) _ _ _ (.inr (.inl ?_)), ?_⟩
  ·rw [hrl]
   have : (j + 1) * k ≤ m * k := Nat.mul_le_mul_right k (by omega)
   rw [Nat.add_mul] at this; omega
  ·rw [size_setCells]
   exact hR _ _ _ _ _ _ _ _ _ (hR _ _ _ _ _ _ _ _ _ hrx (Nat.le_refl _) hle1 ((Same.below hb).mono (Nat.zero_le _) (Nat.le_refl _))) (Nat.le_refl _) (Nat.le_refl _) (Same.setCells _ _ _ _ (by omega))
theorem FilledL.done {α : Type} {R : Rd α} (hR : Stable R) {k : Nat} {xs : List α} {w wr : World} {m : Nat} (h : FilledL R k xs w m wr) (hm : m = xs.length) : ListAt R k true w.heap.size wr.heap.size wr (.slice (some ⟨w.heap.size, 0, none⟩) xs.length xs.length) xs := by
 obtain ⟨h1, h2, h3, h4⟩ := h
 refine .inr ⟨_, _, _, rfl, Nat.le_refl _, h2, fun _ => rfl, fun j hj => ?_⟩
 obtain ⟨r, hrl, hrr, hrx⟩ := h4 j hj (by omega)
 exact ⟨r, hrl, by rw [Nat.zero_add]; exact hrr, hR _ _ _ _ _ _ _ _ _ hrx (by omega) (Nat.le_refl _) (Same.refl _ _ _)⟩
def IntR : Rd Int := fun _ _ _ _ row z => row = [.int .i64 z]
def StrR : Rd ByteArray := fun _ _ _ _ row s => row = [.string s]
theorem IntR.stable : Stable IntR := fun _ _ _ _ _ _ _ _ _ h _ _ _ => h
theorem StrR.stable : Stable StrR := fun _ _ _ _ _ _ _ _ _ h _ _ _ => h
structure InsL where
 o : Int
 k : Int
 a : Int
 b : Int
 T : ByteArray
 C : ByteArray
 N : ByteArray
 Y : ByteArray
 zs : List Int
structure HandL where
 fr : Int
 to : Int
 at' : Int
 ty : ByteArray
structure FrameL where
 at' : Int
 locs : List ByteArray
 stk : List ByteArray
structure LineL where
 at' : Int
 n : Int
structure MethL where
 name : ByteArray
 sig : ByteArray
 flags : Int
 stack : Int
 locals : Int
 code : List InsL
 hands : List HandL
 frames : List FrameL
 lines : List LineL
def InsR : Rd InsL := fun own lo hi w row x => ∃ v, row = [.int .i64 x.o, .int .i64 x.k, .int .i64 x.a, .int .i64 x.b, .string x.T, .string x.C, .string x.N, .string x.Y, v] ∧ ListAt IntR 1 own lo hi w v x.zs
def HandR : Rd HandL := fun own lo hi w row x => row = [.int .i64 x.fr, .int .i64 x.to, .int .i64 x.at', .string x.ty]
def FrameR : Rd FrameL := fun own lo hi w row x => ∃ u v, row = [.int .i64 x.at', u, v] ∧ ListAt StrR 1 own lo hi w u x.locs ∧ ListAt StrR 1 own lo hi w v x.stk
def LineR : Rd LineL := fun own lo hi w row x => row = [.int .i64 x.at', .int .i64 x.n]
def MethR : Rd MethL := fun own lo hi w row x => ∃ c h f l, row = [.string x.name, .string x.sig, .int .i64 x.flags, .int .i64 x.stack, .int .i64 x.locals, c, h, f, l] ∧ ListAt InsR 9 own lo hi w c x.code ∧ ListAt HandR 4 own lo hi w h x.hands ∧ ListAt FrameR 3 own lo hi w f x.frames ∧ ListAt LineR 2 own lo hi w l x.lines
theorem InsR.stable : Stable InsR := fun _ _ _ _ _ _ _ _ _ ⟨v, hv, hx⟩ h1 h2 hs => ⟨v, hv, hx.kept IntR.stable h1 h2 hs⟩
theorem HandR.stable : Stable HandR := fun _ _ _ _ _ _ _ _ _ h _ _ _ => h
theorem FrameR.stable : Stable FrameR := fun _ _ _ _ _ _ _ _ _ ⟨u, v, hv, hx, hy⟩ h1 h2 hs => ⟨u, v, hv, hx.kept StrR.stable h1 h2 hs, hy.kept StrR.stable h1 h2 hs⟩
theorem LineR.stable : Stable LineR := fun _ _ _ _ _ _ _ _ _ h _ _ _ => h
theorem MethR.stable : Stable MethR := fun _ _ _ _ _ _ _ _ _ ⟨c, h, f, l, hv, hx, hy, hz, hl⟩ h1 h2 hs => ⟨c, h, f, l, hv, hx.kept InsR.stable h1 h2 hs, hy.kept HandR.stable h1 h2 hs, hz.kept FrameR.stable h1 h2 hs, hl.kept LineR.stable h1 h2 hs⟩
open Go.ChangeShapes Go.WideShapes Go.ChangeAt Go.RowKit
def OneCells (row : List Value) : Prop := row.all (·.oneCell') = true
theorem OneCells.all {row : List Value} (h : OneCells row) : row.toArray.all (·.oneCell') = true := all_oneCell_toArray (by simpa [OneCells] using h)
def ElemTo {α : Type} (f k : Nat) (R : Rd α) (base : Nat) (x : α) : Prop := ∀ (W : World) (row : List Value), base ≤ W.heap.size → R false 0 base W row x → row.length = k → Calls Tryz.prog f #[.agg row.toArray] W fun e w' => ∃ row' : List Value, e = .returned (.agg row'.toArray) ∧ row'.length = k ∧ OneCells row' ∧ R true W.heap.size w'.heap.size w' row' x ∧ Below W.heap.size W w'
theorem elemT94 : ∃ i z, Tryz.prog.info? 110 = some i ∧ i.zero = some z ∧ i.size = 9 ∧ i.bytes = 120 := by
 obtain ⟨i0, hi0⟩ : ∃ i, Tryz.prog.info? 110 = some i := Option.isSome_iff_exists.1 (by kernel_rfl)
 obtain ⟨z, hz⟩ : ∃ z, (Tryz.prog.info? 110).bind (·.zero) = some z := Option.isSome_iff_exists.1 (by kernel_rfl)
 refine ⟨i0, z, hi0, ?_, ?_, ?_⟩
 ·rw [hi0] at hz; exact hz
 ·have : (Tryz.prog.info? 110).map (·.size) = some 9 := by kernel_rfl
  rw [hi0] at this; exact Option.some.inj this
 ·have : (Tryz.prog.info? 110).map (·.bytes) = some 120 := by kernel_rfl
  rw [hi0] at this; exact Option.some.inj this
theorem elemT95 : ∃ i z, Tryz.prog.info? 124 = some i ∧ i.zero = some z ∧ i.size = 4 ∧ i.bytes = 40 := by
 obtain ⟨i0, hi0⟩ : ∃ i, Tryz.prog.info? 124 = some i := Option.isSome_iff_exists.1 (by kernel_rfl)
 obtain ⟨z, hz⟩ : ∃ z, (Tryz.prog.info? 124).bind (·.zero) = some z := Option.isSome_iff_exists.1 (by kernel_rfl)
 refine ⟨i0, z, hi0, ?_, ?_, ?_⟩
 ·rw [hi0] at hz; exact hz
 ·have : (Tryz.prog.info? 124).map (·.size) = some 4 := by kernel_rfl
  rw [hi0] at this; exact Option.some.inj this
 ·have : (Tryz.prog.info? 124).map (·.bytes) = some 40 := by kernel_rfl
  rw [hi0] at this; exact Option.some.inj this
theorem elemT96 : ∃ i z, Tryz.prog.info? 126 = some i ∧ i.zero = some z ∧ i.size = 3 ∧ i.bytes = 56 := by
 obtain ⟨i0, hi0⟩ : ∃ i, Tryz.prog.info? 126 = some i := Option.isSome_iff_exists.1 (by kernel_rfl)
 obtain ⟨z, hz⟩ : ∃ z, (Tryz.prog.info? 126).bind (·.zero) = some z := Option.isSome_iff_exists.1 (by kernel_rfl)
 refine ⟨i0, z, hi0, ?_, ?_, ?_⟩
 ·rw [hi0] at hz; exact hz
 ·have : (Tryz.prog.info? 126).map (·.size) = some 3 := by kernel_rfl
  rw [hi0] at this; exact Option.some.inj this
 ·have : (Tryz.prog.info? 126).map (·.bytes) = some 56 := by kernel_rfl
  rw [hi0] at this; exact Option.some.inj this
theorem elemT99 : ∃ i z, Tryz.prog.info? 128 = some i ∧ i.zero = some z ∧ i.size = 2 ∧ i.bytes = 16 := by
 obtain ⟨i0, hi0⟩ : ∃ i, Tryz.prog.info? 128 = some i := Option.isSome_iff_exists.1 (by kernel_rfl)
 obtain ⟨z, hz⟩ : ∃ z, (Tryz.prog.info? 128).bind (·.zero) = some z := Option.isSome_iff_exists.1 (by kernel_rfl)
 refine ⟨i0, z, hi0, ?_, ?_, ?_⟩
 ·rw [hi0] at hz; exact hz
 ·have : (Tryz.prog.info? 128).map (·.size) = some 2 := by kernel_rfl
  rw [hi0] at this; exact Option.some.inj this
 ·have : (Tryz.prog.info? 128).map (·.bytes) = some 16 := by kernel_rfl
  rw [hi0] at this; exact Option.some.inj this
theorem elemT9 : ∃ i z, Tryz.prog.info? 9 = some i ∧ i.zero = some z ∧ i.size = 1 ∧ i.bytes = 16 := by
 obtain ⟨i0, hi0⟩ : ∃ i, Tryz.prog.info? 9 = some i := Option.isSome_iff_exists.1 (by kernel_rfl)
 obtain ⟨z, hz⟩ : ∃ z, (Tryz.prog.info? 9).bind (·.zero) = some z := Option.isSome_iff_exists.1 (by kernel_rfl)
 refine ⟨i0, z, hi0, ?_, ?_, ?_⟩
 ·rw [hi0] at hz; exact hz
 ·have : (Tryz.prog.info? 9).map (·.size) = some 1 := by kernel_rfl
  rw [hi0] at this; exact Option.some.inj this
 ·have : (Tryz.prog.info? 9).map (·.bytes) = some 16 := by kernel_rfl
  rw [hi0] at this; exact Option.some.inj this
theorem elemT2 : ∃ i z, Tryz.prog.info? 2 = some i ∧ i.zero = some z ∧ i.size = 1 ∧ i.bytes = 8 := by
 obtain ⟨i0, hi0⟩ : ∃ i, Tryz.prog.info? 2 = some i := Option.isSome_iff_exists.1 (by kernel_rfl)
 obtain ⟨z, hz⟩ : ∃ z, (Tryz.prog.info? 2).bind (·.zero) = some z := Option.isSome_iff_exists.1 (by kernel_rfl)
 refine ⟨i0, z, hi0, ?_, ?_, ?_⟩
 ·rw [hi0] at hz; exact hz
 ·have : (Tryz.prog.info? 2).map (·.size) = some 1 := by kernel_rfl
  rw [hi0] at this; exact Option.some.inj this
 ·have : (Tryz.prog.info? 2).map (·.bytes) = some 8 := by kernel_rfl
  rw [hi0] at this; exact Option.some.inj this
theorem toInsS_calls (v : Value) (xs : List InsL) (w : World) (base : Nat) (hbase : base ≤ w.heap.size) (ht : ListAt InsR 9 false 0 base w v xs) (hn : xs.length ≤ 1048576) (hel : ∀ x ∈ xs, ElemTo 138 9 InsR base x) :
  Calls Tryz.prog 107 #[v] w fun e w' => ∃ u, e = .returned u ∧ ListAt InsR 9 true w.heap.size w'.heap.size w' u xs ∧ Below w.heap.size w w' := by
 obtain ⟨i0, z0, hi0, hz0, hz1, hz2⟩ := elemT94
 have hld : (Tryz.prog.info? 157).map (·.size) = some 9 := by kernel_rfl
 have hst : (Tryz.prog.info? 110).map (·.size) = some 9 := by kernel_rfl
 have hldH : Hid ((Tryz.prog.info? 157).map (·.size) = some 9) := hld
 have hstH : Hid ((Tryz.prog.info? 110).map (·.size) = some 9) := hst
 clear hld hst
 obtain ⟨a, c, rfl⟩ := ht.form
 have helH : Hid (∀ x ∈ xs, ElemTo 138 9 InsR base x) := hel
 have htH : Hid (∀ wr, Below w.heap.size w wr → ListAt InsR 9 false 0 base wr (.slice a xs.length c) xs) := fun wr hw => ht.kept InsR.stable (Nat.le_refl _) (Nat.le_refl _) ((Same.below hw).mono (Nat.zero_le _) hbase)
 have hbH : Hid (base ≤ w.heap.size) := hbase
 clear ht hel hbase
 go_enter Tryz.func107, Tryz.ntmps107
 go_wp2_with (refine wpList_make_full _ rfl (.tmp 6) (.tmp 6) 86 rfl w.heap.size 110 i0 z0 9 Tryz.underlying86 hi0 hz0 hz1 .i64 .i64 xs.length xs.length xs.length rfl rfl rfl rfl (by rw [hz2]; omega) (by unfold maxLen; omega) (Nat.le_refl _) ?_; intro w1 hown1 hgrow1)
 have hFH : Hid (FilledL InsR 9 xs w 0 w1) := FilledL.start hown1 hgrow1
 clear hown1 hgrow1 hi0 hz0 hz1 hz2
 go_loopw [4] (fun i wr => ∃ m : Nat, m ≤ xs.length ∧ i = .int .i64 m ∧ Hid (FilledL InsR 9 xs w m wr)) (fun i _ => xs.length - (intOf i).toNat)
 case atStart => exact ⟨0, Nat.zero_le _, rfl, hFH⟩
 case round =>
  obtain ⟨m, hm, rfl, hF⟩ := hrel
  by_cases hlt : m < xs.length
  ·obtain ⟨b, off, row, rfl, hbb, hrl, hrr, hrx⟩ := (htH.out wr hF.out.1).at m hlt
   have hlt' : (m : Int) < (xs.length : Int) := by omega
   have hcall := helH.out xs[m] (List.getElem_mem hlt) wr row (Nat.le_trans hbH.out hF.out.1.size) hrx hrl
   have hcallH : Hid (Calls Tryz.prog 138 #[.agg row.toArray] wr _) := hcall
   have hrrH : Hid (wr.rangeAt b (off + m * 9) row) := hrr
   have hrlH : Hid (row.length = 9) := hrl
   clear hcall hrr hrl hrx
   go_wp2_with (first
    | (refine wpList_load_mid rfl 157 _ rfl b (off + m * 9) (by first | rfl | (simp; done)) row _ hrrH.out Tryz.underlying157 rfl (by rw [hrlH.out]; exact hldH.out) ?_)
    | (go_at_call 138; refine hcallH.out.mono ?_; rintro e w2 ⟨row', rfl, hl', hone, hx', hb2⟩)
    | (refine wpList_store_mid rfl 110 _ _ rfl w.heap.size (m * 9) row'.toArray (by first | rfl | (simp; done)) (by first | rfl | (simp; done)) (by simpa [hl'] using hF.out.room hlt hb2) (by simpa [hl'] using hstH.out) hone.all ?_))
   go_roundw
   case rel => exact ⟨m + 1, by omega, by go_num, hF.out.next InsR.stable hlt hb2 hl' hx'⟩
   case measure => simp [intOf]; omega
  ·have hend := hF.out
   go_wp2
   go_ret
   exact ⟨_, rfl, hend.done InsR.stable (by omega), hend.1⟩
theorem toHandS_calls (v : Value) (xs : List HandL) (w : World) (base : Nat) (hbase : base ≤ w.heap.size) (ht : ListAt HandR 4 false 0 base w v xs) (hn : xs.length ≤ 1048576) (hel : ∀ x ∈ xs, ElemTo 139 4 HandR base x) :
  Calls Tryz.prog 108 #[v] w fun e w' => ∃ u, e = .returned u ∧ ListAt HandR 4 true w.heap.size w'.heap.size w' u xs ∧ Below w.heap.size w w' := by
 obtain ⟨i0, z0, hi0, hz0, hz1, hz2⟩ := elemT95
 have hld : (Tryz.prog.info? 159).map (·.size) = some 4 := by kernel_rfl
 have hst : (Tryz.prog.info? 124).map (·.size) = some 4 := by kernel_rfl
 have hldH : Hid ((Tryz.prog.info? 159).map (·.size) = some 4) := hld
 have hstH : Hid ((Tryz.prog.info? 124).map (·.size) = some 4) := hst
 clear hld hst
 obtain ⟨a, c, rfl⟩ := ht.form
 have helH : Hid (∀ x ∈ xs, ElemTo 139 4 HandR base x) := hel
 have htH : Hid (∀ wr, Below w.heap.size w wr → ListAt HandR 4 false 0 base wr (.slice a xs.length c) xs) := fun wr hw => ht.kept HandR.stable (Nat.le_refl _) (Nat.le_refl _) ((Same.below hw).mono (Nat.zero_le _) hbase)
 have hbH : Hid (base ≤ w.heap.size) := hbase
 clear ht hel hbase
 go_enter Tryz.func108, Tryz.ntmps108
 go_wp2_with (refine wpList_make_full _ rfl (.tmp 6) (.tmp 6) 87 rfl w.heap.size 124 i0 z0 4 Tryz.underlying87 hi0 hz0 hz1 .i64 .i64 xs.length xs.length xs.length rfl rfl rfl rfl (by rw [hz2]; omega) (by unfold maxLen; omega) (Nat.le_refl _) ?_; intro w1 hown1 hgrow1)
 have hFH : Hid (FilledL HandR 4 xs w 0 w1) := FilledL.start hown1 hgrow1
 clear hown1 hgrow1 hi0 hz0 hz1 hz2
 go_loopw [4] (fun i wr => ∃ m : Nat, m ≤ xs.length ∧ i = .int .i64 m ∧ Hid (FilledL HandR 4 xs w m wr)) (fun i _ => xs.length - (intOf i).toNat)
 case atStart => exact ⟨0, Nat.zero_le _, rfl, hFH⟩
 case round =>
  obtain ⟨m, hm, rfl, hF⟩ := hrel
  by_cases hlt : m < xs.length
  ·obtain ⟨b, off, row, rfl, hbb, hrl, hrr, hrx⟩ := (htH.out wr hF.out.1).at m hlt
   have hlt' : (m : Int) < (xs.length : Int) := by omega
   have hcall := helH.out xs[m] (List.getElem_mem hlt) wr row (Nat.le_trans hbH.out hF.out.1.size) hrx hrl
   have hcallH : Hid (Calls Tryz.prog 139 #[.agg row.toArray] wr _) := hcall
   have hrrH : Hid (wr.rangeAt b (off + m * 4) row) := hrr
   have hrlH : Hid (row.length = 4) := hrl
   clear hcall hrr hrl hrx
   go_wp2_with (first
    | (refine wpList_load_mid rfl 159 _ rfl b (off + m * 4) (by first | rfl | (simp; done)) row _ hrrH.out Tryz.underlying159 rfl (by rw [hrlH.out]; exact hldH.out) ?_)
    | (go_at_call 139; refine hcallH.out.mono ?_; rintro e w2 ⟨row', rfl, hl', hone, hx', hb2⟩)
    | (refine wpList_store_mid rfl 124 _ _ rfl w.heap.size (m * 4) row'.toArray (by first | rfl | (simp; done)) (by first | rfl | (simp; done)) (by simpa [hl'] using hF.out.room hlt hb2) (by simpa [hl'] using hstH.out) hone.all ?_))
   go_roundw
   case rel => exact ⟨m + 1, by omega, by go_num, hF.out.next HandR.stable hlt hb2 hl' hx'⟩
   case measure => simp [intOf]; omega
  ·have hend := hF.out
   go_wp2
   go_ret
   exact ⟨_, rfl, hend.done HandR.stable (by omega), hend.1⟩
theorem toFrameS_calls (v : Value) (xs : List FrameL) (w : World) (base : Nat) (hbase : base ≤ w.heap.size) (ht : ListAt FrameR 3 false 0 base w v xs) (hn : xs.length ≤ 1048576) (hel : ∀ x ∈ xs, ElemTo 140 3 FrameR base x) :
  Calls Tryz.prog 109 #[v] w fun e w' => ∃ u, e = .returned u ∧ ListAt FrameR 3 true w.heap.size w'.heap.size w' u xs ∧ Below w.heap.size w w' := by
 obtain ⟨i0, z0, hi0, hz0, hz1, hz2⟩ := elemT96
 have hld : (Tryz.prog.info? 161).map (·.size) = some 3 := by kernel_rfl
 have hst : (Tryz.prog.info? 126).map (·.size) = some 3 := by kernel_rfl
 have hldH : Hid ((Tryz.prog.info? 161).map (·.size) = some 3) := hld
 have hstH : Hid ((Tryz.prog.info? 126).map (·.size) = some 3) := hst
 clear hld hst
 obtain ⟨a, c, rfl⟩ := ht.form
 have helH : Hid (∀ x ∈ xs, ElemTo 140 3 FrameR base x) := hel
 have htH : Hid (∀ wr, Below w.heap.size w wr → ListAt FrameR 3 false 0 base wr (.slice a xs.length c) xs) := fun wr hw => ht.kept FrameR.stable (Nat.le_refl _) (Nat.le_refl _) ((Same.below hw).mono (Nat.zero_le _) hbase)
 have hbH : Hid (base ≤ w.heap.size) := hbase
 clear ht hel hbase
 go_enter Tryz.func109, Tryz.ntmps109
 go_wp2_with (refine wpList_make_full _ rfl (.tmp 6) (.tmp 6) 88 rfl w.heap.size 126 i0 z0 3 Tryz.underlying88 hi0 hz0 hz1 .i64 .i64 xs.length xs.length xs.length rfl rfl rfl rfl (by rw [hz2]; omega) (by unfold maxLen; omega) (Nat.le_refl _) ?_; intro w1 hown1 hgrow1)
 have hFH : Hid (FilledL FrameR 3 xs w 0 w1) := FilledL.start hown1 hgrow1
 clear hown1 hgrow1 hi0 hz0 hz1 hz2
 go_loopw [4] (fun i wr => ∃ m : Nat, m ≤ xs.length ∧ i = .int .i64 m ∧ Hid (FilledL FrameR 3 xs w m wr)) (fun i _ => xs.length - (intOf i).toNat)
 case atStart => exact ⟨0, Nat.zero_le _, rfl, hFH⟩
 case round =>
  obtain ⟨m, hm, rfl, hF⟩ := hrel
  by_cases hlt : m < xs.length
  ·obtain ⟨b, off, row, rfl, hbb, hrl, hrr, hrx⟩ := (htH.out wr hF.out.1).at m hlt
   have hlt' : (m : Int) < (xs.length : Int) := by omega
   have hcall := helH.out xs[m] (List.getElem_mem hlt) wr row (Nat.le_trans hbH.out hF.out.1.size) hrx hrl
   have hcallH : Hid (Calls Tryz.prog 140 #[.agg row.toArray] wr _) := hcall
   have hrrH : Hid (wr.rangeAt b (off + m * 3) row) := hrr
   have hrlH : Hid (row.length = 3) := hrl
   clear hcall hrr hrl hrx
   go_wp2_with (first
    | (refine wpList_load_mid rfl 161 _ rfl b (off + m * 3) (by first | rfl | (simp; done)) row _ hrrH.out Tryz.underlying161 rfl (by rw [hrlH.out]; exact hldH.out) ?_)
    | (go_at_call 140; refine hcallH.out.mono ?_; rintro e w2 ⟨row', rfl, hl', hone, hx', hb2⟩)
    | (refine wpList_store_mid rfl 126 _ _ rfl w.heap.size (m * 3) row'.toArray (by first | rfl | (simp; done)) (by first | rfl | (simp; done)) (by simpa [hl'] using hF.out.room hlt hb2) (by simpa [hl'] using hstH.out) hone.all ?_))
   go_roundw
   case rel => exact ⟨m + 1, by omega, by go_num, hF.out.next FrameR.stable hlt hb2 hl' hx'⟩
   case measure => simp [intOf]; omega
  ·have hend := hF.out
   go_wp2
   go_ret
   exact ⟨_, rfl, hend.done FrameR.stable (by omega), hend.1⟩
theorem toLineS_calls (v : Value) (xs : List LineL) (w : World) (base : Nat) (hbase : base ≤ w.heap.size) (ht : ListAt LineR 2 false 0 base w v xs) (hn : xs.length ≤ 1048576) (hel : ∀ x ∈ xs, ElemTo 141 2 LineR base x) :
  Calls Tryz.prog 110 #[v] w fun e w' => ∃ u, e = .returned u ∧ ListAt LineR 2 true w.heap.size w'.heap.size w' u xs ∧ Below w.heap.size w w' := by
 obtain ⟨i0, z0, hi0, hz0, hz1, hz2⟩ := elemT99
 have hld : (Tryz.prog.info? 167).map (·.size) = some 2 := by kernel_rfl
 have hst : (Tryz.prog.info? 128).map (·.size) = some 2 := by kernel_rfl
 have hldH : Hid ((Tryz.prog.info? 167).map (·.size) = some 2) := hld
 have hstH : Hid ((Tryz.prog.info? 128).map (·.size) = some 2) := hst
 clear hld hst
 obtain ⟨a, c, rfl⟩ := ht.form
 have helH : Hid (∀ x ∈ xs, ElemTo 141 2 LineR base x) := hel
 have htH : Hid (∀ wr, Below w.heap.size w wr → ListAt LineR 2 false 0 base wr (.slice a xs.length c) xs) := fun wr hw => ht.kept LineR.stable (Nat.le_refl _) (Nat.le_refl _) ((Same.below hw).mono (Nat.zero_le _) hbase)
 have hbH : Hid (base ≤ w.heap.size) := hbase
 clear ht hel hbase
 go_enter Tryz.func110, Tryz.ntmps110
 go_wp2_with (refine wpList_make_full _ rfl (.tmp 6) (.tmp 6) 89 rfl w.heap.size 128 i0 z0 2 Tryz.underlying89 hi0 hz0 hz1 .i64 .i64 xs.length xs.length xs.length rfl rfl rfl rfl (by rw [hz2]; omega) (by unfold maxLen; omega) (Nat.le_refl _) ?_; intro w1 hown1 hgrow1)
 have hFH : Hid (FilledL LineR 2 xs w 0 w1) := FilledL.start hown1 hgrow1
 clear hown1 hgrow1 hi0 hz0 hz1 hz2
 go_loopw [4] (fun i wr => ∃ m : Nat, m ≤ xs.length ∧ i = .int .i64 m ∧ Hid (FilledL LineR 2 xs w m wr)) (fun i _ => xs.length - (intOf i).toNat)
 case atStart => exact ⟨0, Nat.zero_le _, rfl, hFH⟩
 case round =>
  obtain ⟨m, hm, rfl, hF⟩ := hrel
  by_cases hlt : m < xs.length
  ·obtain ⟨b, off, row, rfl, hbb, hrl, hrr, hrx⟩ := (htH.out wr hF.out.1).at m hlt
   have hlt' : (m : Int) < (xs.length : Int) := by omega
   have hcall := helH.out xs[m] (List.getElem_mem hlt) wr row (Nat.le_trans hbH.out hF.out.1.size) hrx hrl
   have hcallH : Hid (Calls Tryz.prog 141 #[.agg row.toArray] wr _) := hcall
   have hrrH : Hid (wr.rangeAt b (off + m * 2) row) := hrr
   have hrlH : Hid (row.length = 2) := hrl
   clear hcall hrr hrl hrx
   go_wp2_with (first
    | (refine wpList_load_mid rfl 167 _ rfl b (off + m * 2) (by first | rfl | (simp; done)) row _ hrrH.out Tryz.underlying167 rfl (by rw [hrlH.out]; exact hldH.out) ?_)
    | (go_at_call 141; refine hcallH.out.mono ?_; rintro e w2 ⟨row', rfl, hl', hone, hx', hb2⟩)
    | (refine wpList_store_mid rfl 128 _ _ rfl w.heap.size (m * 2) row'.toArray (by first | rfl | (simp; done)) (by first | rfl | (simp; done)) (by simpa [hl'] using hF.out.room hlt hb2) (by simpa [hl'] using hstH.out) hone.all ?_))
   go_roundw
   case rel => exact ⟨m + 1, by omega, by go_num, hF.out.next LineR.stable hlt hb2 hl' hx'⟩
   case measure => simp [intOf]; omega
  ·have hend := hF.out
   go_wp2
   go_ret
   exact ⟨_, rfl, hend.done LineR.stable (by omega), hend.1⟩
theorem toStrs_calls (v : Value) (xs : List ByteArray) (w : World) (base : Nat) (hbase : base ≤ w.heap.size) (ht : ListAt StrR 1 false 0 base w v xs) (hn : xs.length ≤ 1048576) :
  Calls Tryz.prog 47 #[v] w fun e w' => ∃ u, e = .returned u ∧ ListAt StrR 1 true w.heap.size w'.heap.size w' u xs ∧ Below w.heap.size w w' := by
 obtain ⟨i0, z0, hi0, hz0, hz1, hz2⟩ := elemT9
 obtain ⟨a, c, rfl⟩ := ht.form
 have htH : Hid (∀ wr, Below w.heap.size w wr → ListAt StrR 1 false 0 base wr (.slice a xs.length c) xs) := fun wr hw => ht.kept StrR.stable (Nat.le_refl _) (Nat.le_refl _) ((Same.below hw).mono (Nat.zero_le _) hbase)
 clear ht hbase
 go_enter Tryz.func47, Tryz.ntmps47
 go_wp2_with (refine wpList_make_full _ rfl (.tmp 6) (.tmp 6) 24 rfl w.heap.size 9 i0 z0 1 Tryz.underlying24 hi0 hz0 hz1 .i64 .i64 xs.length xs.length xs.length rfl rfl rfl rfl (by rw [hz2]; omega) (by unfold maxLen; omega) (Nat.le_refl _) ?_; intro w1 hown1 hgrow1)
 have hFH : Hid (FilledL StrR 1 xs w 0 w1) := FilledL.start hown1 hgrow1
 clear hown1 hgrow1 hi0 hz0 hz1 hz2
 go_loopw [4] (fun i wr => ∃ m : Nat, m ≤ xs.length ∧ i = .int .i64 m ∧ Hid (FilledL StrR 1 xs w m wr)) (fun i _ => xs.length - (intOf i).toNat)
 case atStart => exact ⟨0, Nat.zero_le _, rfl, hFH⟩
 case round =>
  obtain ⟨m, hm, rfl, hF⟩ := hrel
  by_cases hlt : m < xs.length
  ·obtain ⟨b, off, row, rfl, hbb, hrl, hrr, hrx⟩ := (htH.out wr hF.out.1).at m hlt
   have hlt' : (m : Int) < (xs.length : Int) := by omega
   have hrow : row = [.string xs[m]] := hrx
   have hcell : wr.cell? ⟨b, off + m, none⟩ = some (.string xs[m]) := by simpa using hrr 0 (.string xs[m]) (by rw [hrow]; rfl)
   have hroom := hF.out.room hlt (Below.refl _ _) 0 (by omega)
   have hsome : ∃ u, wr.cell? ⟨w.heap.size, m, none⟩ = some u := Option.isSome_iff_exists.1 (by simpa using hroom.1)
   have hfz : wr.frozen? ⟨w.heap.size, m, none⟩ = false := by simpa using hroom.2
   obtain ⟨u, hu⟩ := hsome
   have hnx : FilledL StrR 1 xs w (m + 1) (wr.setCells w.heap.size (m * 1) [.string xs[m]]) := hF.out.next StrR.stable hlt (Below.refl _ _) rfl rfl
   have hnxH : Hid (FilledL StrR 1 xs w (m + 1) (wr.setCell ⟨w.heap.size, m, none⟩ (.string xs[m]))) := by
    have e : m * 1 = m := Nat.mul_one m
    rw [e] at hnx; exact hnx
   obtain ⟨z, hz⟩ : ∃ z, z = xs[m] := ⟨_, rfl⟩
   rw [← hz] at hcell hnxH
   clear hz hnx hrow hrx hrr hrl hroom
   go_wp2
   go_roundw
   case rel => exact ⟨m + 1, by omega, by go_num, hnxH⟩
   case measure => simp [intOf]; omega
  ·have hend := hF.out
   go_wp2
   go_ret
   exact ⟨_, rfl, hend.done StrR.stable (by omega), hend.1⟩
theorem toIntsL_calls (v : Value) (xs : List Int) (w : World) (base : Nat) (hbase : base ≤ w.heap.size) (ht : ListAt IntR 1 false 0 base w v xs) (hn : xs.length ≤ 1048576) :
  Calls Tryz.prog 178 #[v] w fun e w' => ∃ u, e = .returned u ∧ ListAt IntR 1 true w.heap.size w'.heap.size w' u xs ∧ Below w.heap.size w w' := by
 obtain ⟨i0, z0, hi0, hz0, hz1, hz2⟩ := elemT2
 obtain ⟨a, c, rfl⟩ := ht.form
 have htH : Hid (∀ wr, Below w.heap.size w wr → ListAt IntR 1 false 0 base wr (.slice a xs.length c) xs) := fun wr hw => ht.kept IntR.stable (Nat.le_refl _) (Nat.le_refl _) ((Same.below hw).mono (Nat.zero_le _) hbase)
 clear ht hbase
 go_enter Tryz.func178, Tryz.ntmps178
 go_wp2_with (refine wpList_make_full _ rfl (.tmp 6) (.tmp 6) 108 rfl w.heap.size 2 i0 z0 1 Tryz.underlying108 hi0 hz0 hz1 .i64 .i64 xs.length xs.length xs.length rfl rfl rfl rfl (by rw [hz2]; omega) (by unfold maxLen; omega) (Nat.le_refl _) ?_; intro w1 hown1 hgrow1)
 have hFH : Hid (FilledL IntR 1 xs w 0 w1) := FilledL.start hown1 hgrow1
 clear hown1 hgrow1 hi0 hz0 hz1 hz2
 go_loopw [4] (fun i wr => ∃ m : Nat, m ≤ xs.length ∧ i = .int .i64 m ∧ Hid (FilledL IntR 1 xs w m wr)) (fun i _ => xs.length - (intOf i).toNat)
 case atStart => exact ⟨0, Nat.zero_le _, rfl, hFH⟩
 case round =>
  obtain ⟨m, hm, rfl, hF⟩ := hrel
  by_cases hlt : m < xs.length
  ·obtain ⟨b, off, row, rfl, hbb, hrl, hrr, hrx⟩ := (htH.out wr hF.out.1).at m hlt
   have hlt' : (m : Int) < (xs.length : Int) := by omega
   have hrow : row = [.int .i64 xs[m]] := hrx
   have hcell : wr.cell? ⟨b, off + m, none⟩ = some (.int .i64 xs[m]) := by simpa using hrr 0 (.int .i64 xs[m]) (by rw [hrow]; rfl)
   have hroom := hF.out.room hlt (Below.refl _ _) 0 (by omega)
   have hsome : ∃ u, wr.cell? ⟨w.heap.size, m, none⟩ = some u := Option.isSome_iff_exists.1 (by simpa using hroom.1)
   have hfz : wr.frozen? ⟨w.heap.size, m, none⟩ = false := by simpa using hroom.2
   obtain ⟨u, hu⟩ := hsome
   have hnx : FilledL IntR 1 xs w (m + 1) (wr.setCells w.heap.size (m * 1) [.int .i64 xs[m]]) := hF.out.next IntR.stable hlt (Below.refl _ _) rfl rfl
   have hnxH : Hid (FilledL IntR 1 xs w (m + 1) (wr.setCell ⟨w.heap.size, m, none⟩ (.int .i64 xs[m]))) := by
    have e : m * 1 = m := Nat.mul_one m
    rw [e] at hnx; exact hnx
   obtain ⟨z, hz⟩ : ∃ z, z = xs[m] := ⟨_, rfl⟩
   rw [← hz] at hcell hnxH
   clear hz hnx hrow hrx hrr hrl hroom
   go_wp2
   go_roundw
   case rel => exact ⟨m + 1, by omega, by go_num, hnxH⟩
   case measure => simp [intOf]; omega
  ·have hend := hF.out
   go_wp2
   go_ret
   exact ⟨_, rfl, hend.done IntR.stable (by omega), hend.1⟩
theorem rangeAt_heap {w : World} {g : Nat} {cs : Array Value} {t : TypeId} {fr : Nat × Nat} (h : w.heap[g]? = some (.cells cs t fr)) : w.rangeAt g 0 cs.toList := fun j v hv => by
 simp only [World.cell?, Nat.zero_add, h]
 simpa using hv
theorem there_heap {w : World} {g : Nat} {cs : Array Value} {t : TypeId} (h : w.heap[g]? = some (.cells cs t (0, 0))) : w.there g 0 cs.size := fun j hj => by
 constructor
 ·simp [World.cell?, h, hj]
 ·simp [World.frozen?, h]
theorem heap_mid3 (w : World) (a b c : Obj) : (((w.alloc a).alloc b).alloc c).heap[w.heap.size + 1]? = some b := by
 rw [Below.heap_alloc _ _ _ (by simp)]
 have h := heap_alloc_new (w.alloc a) b
 simpa using h
theorem below_3 (w : World) (a b c : Obj) : Below w.heap.size w (((w.alloc a).alloc b).alloc c) := (((Below.refl _ _).alloc (Nat.le_refl _) _).alloc (by simp) _).alloc (by simp; omega) _
structure Rec3 (w W : World) (k : Nat) (I O : List Value) : Prop where
 hb : Below w.heap.size w W
 sz : w.heap.size + 3 ≤ W.heap.size
 inp : W.rangeAt w.heap.size 0 I
 z : W.there (w.heap.size + 1) 0 k
 ot : W.there (w.heap.size + 1 + 1) 0 k
 o : W.rangeAt (w.heap.size + 1 + 1) 0 O
theorem Rec3.start {w W : World} {I Z O : Array Value} {t t' : TypeId} (hW : W = ((w.alloc (.cells I t)).alloc (.cells Z t')).alloc (.cells O t')) {k : Nat} (hz : Z.size = k) (ho : O.size = k) : Rec3 w W k I.toList O.toList := by
 have h2 : W.heap[w.heap.size + 1 + 1]? = some (.cells O t' (0, 0)) := by
  rw [hW]
  have h := heap_alloc_new ((w.alloc (.cells I t)).alloc (.cells Z t')) (.cells O t')
  simpa using h
 have h1 : W.heap[w.heap.size + 1]? = some (.cells Z t' (0, 0)) := by
  rw [hW, Below.heap_alloc _ _ _ (by simp)]
  have h := heap_alloc_new (w.alloc (.cells I t)) (.cells Z t')
  simpa using h
 have h0 : W.heap[w.heap.size]? = some (.cells I t (0, 0)) := by
  rw [hW, Below.heap_alloc _ _ _ (by simp; omega), Below.heap_alloc _ _ _ (by simp)]
  exact heap_alloc_new w _
 subst hz
 refine ⟨?_, by rw [hW]; simp, rangeAt_heap h0, there_heap h1, by rw [← ho]; exact there_heap h2, rangeAt_heap h2⟩
 rw [hW]
 exact (((Below.refl _ _).alloc (Nat.le_refl _) _).alloc (by simp) _).alloc (by simp; omega) _
theorem Rec3.call {w W w1 : World} {k : Nat} {I O : List Value} (h : Rec3 w W k I O) (hb : Below W.heap.size W w1) : Rec3 w w1 k I O := by
 obtain ⟨h1, h2, h3, h4, h5, h6⟩ := h
 have := hb.size
 exact ⟨h1.trans (hb.mono h1.size), by omega, rangeAt_same (Same.below hb) (Nat.zero_le _) (by omega) h3, there_kept hb (by omega) h4, there_kept hb (by omega) h5, rangeAt_same (Same.below hb) (Nat.zero_le _) (by omega) h6⟩
theorem setCells_one (w : World) (b o : Nat) (v : Value) : w.setCells b o [v] = w.setCell ⟨b, o, none⟩ v := rfl
theorem Rec3.set {w W : World} {k : Nat} {I O : List Value} (h : Rec3 w W k I O) (i : Nat) (v : Value) (hi : i < k) (hO : O.length = k) : Rec3 w (W.setCell ⟨w.heap.size + 1 + 1, i, none⟩ v) k I (O.set i v) := by
 obtain ⟨h1, h2, h3, h4, h5, h6⟩ := h
 refine ⟨h1.setCell (p := ⟨w.heap.size + 1 + 1, i, none⟩) (by show w.heap.size ≤ w.heap.size + 1 + 1; omega) v, by simpa [World.setCell] using h2, ?_, ?_, ?_, fun j u hu => ?_⟩
 ·rw [← setCells_one]; exact World.rangeAt_setCells_apart h3 _ _ _ (.inl (by omega))
 ·rw [← setCells_one]; exact World.there_setCells h4 _ _ _
 ·rw [← setCells_one]; exact World.there_setCells h5 _ _ _
 ·have hj : j < k := by
   have := (List.getElem?_eq_some_iff.1 hu).1
   simpa [hO] using this
  obtain ⟨q, hq⟩ := Option.isSome_iff_exists.1 (h5 i hi).1
  simp only [Nat.zero_add] at hq ⊢
  by_cases e : j = i
  ·subst e
   rw [World.cell?_setCell_same _ _ _ hq]
   rw [List.getElem?_set_self (by omega)] at hu
   exact hu
  ·rw [World.cell?_setCell_other _ _ _ _ (fun e2 => e (by injection e2 with _ e3; exact e3.symm))]
   rw [List.getElem?_set_ne (fun e2 => e e2.symm)] at hu
   simpa using h6 j u hu
theorem Rec3.cellI {w W : World} {k : Nat} {I O : List Value} (h : Rec3 w W k I O) (i : Nat) (v : Value) (hv : I[i]? = some v) : W.cell? ⟨w.heap.size, i, none⟩ = some v := by simpa using h.inp i v hv
theorem Rec3.cellO {w W : World} {k : Nat} {I O : List Value} (h : Rec3 w W k I O) (i : Nat) (hi : i < k) : (∃ q, W.cell? ⟨w.heap.size + 1 + 1, i, none⟩ = some q) ∧ W.frozen? ⟨w.heap.size + 1 + 1, i, none⟩ = false := by
 have := h.ot i hi
 simp only [Nat.zero_add] at this
 exact ⟨Option.isSome_iff_exists.1 this.1, this.2⟩
theorem same_setCell (w : World) (g i : Nat) (v : Value) {lo hi : Nat} (h : g < lo ∨ hi ≤ g) : Same lo hi w (w.setCell ⟨g, i, none⟩ v) := by
 rw [← setCells_one]; exact Same.setCells w g i [v] h
theorem results_cell_mid {fn : Func} {p : Tmp} {ty : TypeId} (h : fn.results = #[.cell p ty]) (tmps : Array Value) (w : World) (g : Nat) (cs : List Value) (d : TypeDesc)
  (hp : tmps.getD p undef = .pointer (some ⟨g, 0, none⟩)) (hc : w.rangeAt g 0 cs)
  (hu : Tryz.prog.underlying ty = some d) (hd : d.isRow = true) (hi : (Tryz.prog.info? ty).map (·.size) = some cs.length) :
  (results fn tmps).run Tryz.prog w = .ok (.agg cs.toArray) w := by
 have hp' : tmps[p]?.getD undef = .pointer (some ⟨g, 0, none⟩) := by simpa using hp
 simp [results, h, hp', asAddr, run_loadVar_mid w g 0 ty cs d hc hu hd hi]
def InsL.small (x : InsL) : Prop := x.T.size ≤ 1048576 ∧ x.C.size ≤ 1048576 ∧ x.N.size ≤ 1048576 ∧ x.Y.size ≤ 1048576 ∧ x.zs.length ≤ 1048576
def HandL.small (x : HandL) : Prop := x.ty.size ≤ 1048576
def FrameL.small (x : FrameL) : Prop := x.locs.length ≤ 1048576 ∧ x.stk.length ≤ 1048576 ∧ (∀ s ∈ x.locs, s.size ≤ 1048576) ∧ (∀ s ∈ x.stk, s.size ≤ 1048576)
def MethL.small (x : MethL) : Prop := x.name.size ≤ 1048576 ∧ x.sig.size ≤ 1048576 ∧ (x.code.length ≤ 1048576 ∧ ∀ y ∈ x.code, y.small) ∧ (x.hands.length ≤ 1048576 ∧ ∀ y ∈ x.hands, y.small) ∧ (x.frames.length ≤ 1048576 ∧ ∀ y ∈ x.frames, y.small) ∧ x.lines.length ≤ 1048576
theorem toHand_calls (x : HandL) (base : Nat) : ElemTo 139 4 HandR base x := by
 intro w row hbase hrx hrl
 have hrow : row = [.int .i64 x.fr, .int .i64 x.to, .int .i64 x.at', .string x.ty] := hrx
 subst hrow
 clear hrx hrl hbase
 go_enter Tryz.func139, Tryz.ntmps139
 go_wp2
 refine bodyPost_ret (v := .agg #[.int .i64 x.fr, .int .i64 x.to, .int .i64 x.at', .string x.ty]) (results_cell_mid rfl _ _ (w.heap.size + 1) [.int .i64 x.fr, .int .i64 x.to, .int .i64 x.at', .string x.ty] _ rfl (rangeAt_heap (heap_mid3 w _ _ _)) Tryz.underlying124 rfl (by kernel_rfl)) rfl ⟨[.int .i64 x.fr, .int .i64 x.to, .int .i64 x.at', .string x.ty], rfl, rfl, rfl, rfl, below_3 w _ _ _⟩
theorem toLine_calls (x : LineL) (base : Nat) : ElemTo 141 2 LineR base x := by
 intro w row hbase hrx hrl
 have hrow : row = [.int .i64 x.at', .int .i64 x.n] := hrx
 subst hrow
 clear hrx hrl hbase
 go_enter Tryz.func141, Tryz.ntmps141
 go_wp2
 refine bodyPost_ret (v := .agg #[.int .i64 x.at', .int .i64 x.n]) (results_cell_mid rfl _ _ (w.heap.size + 1) [.int .i64 x.at', .int .i64 x.n] _ rfl (rangeAt_heap (heap_mid3 w _ _ _)) Tryz.underlying128 rfl (by kernel_rfl)) rfl ⟨[.int .i64 x.at', .int .i64 x.n], rfl, rfl, rfl, rfl, below_3 w _ _ _⟩
theorem toFrame_calls (x : FrameL) (base : Nat) (hy : x.small) : ElemTo 140 3 FrameR base x := by
 intro w row hbase hrx hrl
 have hinf : Hid ((Tryz.prog.info? 126).map (·.size) = some 3) := by show (Tryz.prog.info? 126).map (·.size) = some 3; kernel_rfl
 obtain ⟨v1, v2, rfl, h1, h2⟩ := hrx
 have c1H : Hid (∀ W, Below w.heap.size w W → Calls Tryz.prog 47 #[v1] W fun e w' => ∃ u, e = .returned u ∧ ListAt StrR 1 true W.heap.size w'.heap.size w' u x.locs ∧ Below W.heap.size W w') := fun W hW => toStrs_calls v1 x.locs W base (Nat.le_trans hbase hW.size) (h1.kept StrR.stable (Nat.le_refl _) (Nat.le_refl _) ((Same.below hW).mono (Nat.zero_le _) hbase)) hy.1
 have c2H : Hid (∀ W, Below w.heap.size w W → Calls Tryz.prog 47 #[v2] W fun e w' => ∃ u, e = .returned u ∧ ListAt StrR 1 true W.heap.size w'.heap.size w' u x.stk ∧ Below W.heap.size W w') := fun W hW => toStrs_calls v2 x.stk W base (Nat.le_trans hbase hW.size) (h2.kept StrR.stable (Nat.le_refl _) (Nat.le_refl _) ((Same.below hW).mono (Nat.zero_le _) hbase)) hy.2.1
 obtain ⟨a1, n1, rfl⟩ := h1.form
 obtain ⟨len1, hlen1⟩ : ∃ n, n = (x.locs).length := ⟨_, rfl⟩
 have hlen1H : Hid (len1 = (x.locs).length) := hlen1
 rw [← hlen1] at c1H ⊢
 obtain ⟨a2, n2, rfl⟩ := h2.form
 obtain ⟨len2, hlen2⟩ : ∃ n, n = (x.stk).length := ⟨_, rfl⟩
 have hlen2H : Hid (len2 = (x.stk).length) := hlen2
 rw [← hlen2] at c2H ⊢
 clear hrl hbase h1 h2 hlen1 hlen2
 go_enter Tryz.func140, Tryz.ntmps140
 go_wp2_with fail
 obtain ⟨W0, hW0⟩ : ∃ W : World, W = ((w.alloc (.cells #[.int .i64 x.at', .slice a1 len1 n1, .slice a2 len2 n2] 161)).alloc (.cells #[.int .i64 0, .slice none 0 0, .slice none 0 0] 126)).alloc (.cells #[.int .i64 x.at', .slice none 0 0, .slice none 0 0] 126) := ⟨_, rfl⟩
 rw [← hW0]
 have r0 : Hid (Rec3 w W0 3 [.int .i64 x.at', .slice a1 len1 n1, .slice a2 len2 n2] [.int .i64 x.at', .slice none 0 0, .slice none 0 0]) := Rec3.start hW0 rfl rfl
 clear hW0
 refine (c1H.out W0 r0.out.hb).mono ?_
 rintro e w1 ⟨u1, rfl, g1, hb1⟩
 obtain ⟨b1, m1, rfl⟩ := g1.form
 rw [← hlen1H.out] at g1 ⊢
 have rc1 : Hid (Rec3 w w1 3 [.int .i64 x.at', .slice a1 len1 n1, .slice a2 len2 n2] [.int .i64 x.at', .slice none 0 0, .slice none 0 0]) := r0.out.call hb1
 have g1H : Hid (ListAt StrR 1 true (w.heap.size + 3) w1.heap.size w1 (.slice b1 len1 m1) x.locs) := g1.kept StrR.stable r0.out.sz (Nat.le_refl _) (Same.refl _ _ _)
 have xi1_2 := rc1.out.cellI 2 _ rfl
 obtain ⟨⟨q1_1, xo1_1⟩, xf1_1⟩ := rc1.out.cellO 1 (by omega)
 clear g1 hb1
 have r1 : Hid (Rec3 w (w1.setCell ⟨w.heap.size + 1 + 1, 1, none⟩ (.slice b1 len1 m1)) 3 [.int .i64 x.at', .slice a1 len1 n1, .slice a2 len2 n2] [.int .i64 x.at', .slice b1 len1 m1, .slice none 0 0]) := (rc1.out.set 1 (.slice b1 len1 m1) (by omega) rfl)
 have g1H : Hid (ListAt StrR 1 true (w.heap.size + 3) (w1.setCell ⟨w.heap.size + 1 + 1, 1, none⟩ (.slice b1 len1 m1)).heap.size (w1.setCell ⟨w.heap.size + 1 + 1, 1, none⟩ (.slice b1 len1 m1)) (.slice b1 len1 m1) x.locs) := g1H.out.kept StrR.stable (Nat.le_refl _) (by simp) (Same.trans (Same.refl _ _ _) (same_setCell _ _ _ _ (.inl (by omega))))
 go_wp2_with fail
 obtain ⟨W1, hW1⟩ : ∃ W : World, W = (w1.setCell ⟨w.heap.size + 1 + 1, 1, none⟩ (.slice b1 len1 m1)) := ⟨_, rfl⟩
 rw [← hW1] at r1 g1H ⊢
 clear hW1 rc1 xi1_2 xo1_1 xf1_1
 refine (c2H.out W1 r1.out.hb).mono ?_
 rintro e w2 ⟨u2, rfl, g2, hb2⟩
 obtain ⟨b2, m2, rfl⟩ := g2.form
 rw [← hlen2H.out] at g2 ⊢
 have rc2 : Hid (Rec3 w w2 3 [.int .i64 x.at', .slice a1 len1 n1, .slice a2 len2 n2] [.int .i64 x.at', .slice b1 len1 m1, .slice none 0 0]) := r1.out.call hb2
 have g2H : Hid (ListAt StrR 1 true (w.heap.size + 3) w2.heap.size w2 (.slice b2 len2 m2) x.stk) := g2.kept StrR.stable r1.out.sz (Nat.le_refl _) (Same.refl _ _ _)
 have g1H : Hid (ListAt StrR 1 true (w.heap.size + 3) w2.heap.size w2 (.slice b1 len1 m1) x.locs) := g1H.out.kept StrR.stable (Nat.le_refl _) hb2.size ((Same.below hb2).mono (Nat.zero_le _) (Nat.le_refl _))
 obtain ⟨⟨q2_2, xo2_2⟩, xf2_2⟩ := rc2.out.cellO 2 (by omega)
 clear g2 hb2
 have r2 : Hid (Rec3 w (w2.setCell ⟨w.heap.size + 1 + 1, 2, none⟩ (.slice b2 len2 m2)) 3 [.int .i64 x.at', .slice a1 len1 n1, .slice a2 len2 n2] [.int .i64 x.at', .slice b1 len1 m1, .slice b2 len2 m2]) := (rc2.out.set 2 (.slice b2 len2 m2) (by omega) rfl)
 have g1H : Hid (ListAt StrR 1 true (w.heap.size + 3) (w2.setCell ⟨w.heap.size + 1 + 1, 2, none⟩ (.slice b2 len2 m2)).heap.size (w2.setCell ⟨w.heap.size + 1 + 1, 2, none⟩ (.slice b2 len2 m2)) (.slice b1 len1 m1) x.locs) := g1H.out.kept StrR.stable (Nat.le_refl _) (by simp) (Same.trans (Same.refl _ _ _) (same_setCell _ _ _ _ (.inl (by omega))))
 have g2H : Hid (ListAt StrR 1 true (w.heap.size + 3) (w2.setCell ⟨w.heap.size + 1 + 1, 2, none⟩ (.slice b2 len2 m2)).heap.size (w2.setCell ⟨w.heap.size + 1 + 1, 2, none⟩ (.slice b2 len2 m2)) (.slice b2 len2 m2) x.stk) := g2H.out.kept StrR.stable (Nat.le_refl _) (by simp) (Same.trans (Same.refl _ _ _) (same_setCell _ _ _ _ (.inl (by omega))))
 go_wp2_with (first | (refine wpList_load_mid rfl 126 _ rfl (w.heap.size + 1 + 1) 0 rfl [.int .i64 x.at', .slice b1 len1 m1, .slice b2 len2 m2] _ r2.out.o Tryz.underlying126 rfl hinf.out ?_) | (refine wpList_store_mid rfl 126 _ _ rfl (w.heap.size + 1) 0 #[.int .i64 x.at', .slice b1 len1 m1, .slice b2 len2 m2] rfl rfl r2.out.z hinf.out (OneCells.all (row := [.int .i64 x.at', .slice b1 len1 m1, .slice b2 len2 m2]) rfl) ?_))
 refine bodyPost_ret (v := .agg #[.int .i64 x.at', .slice b1 len1 m1, .slice b2 len2 m2]) (results_cell_mid rfl _ _ (w.heap.size + 1) [.int .i64 x.at', .slice b1 len1 m1, .slice b2 len2 m2] _ rfl (World.rangeAt_setCells_same _ _ _ _ r2.out.z) Tryz.underlying126 rfl hinf.out) rfl ⟨[.int .i64 x.at', .slice b1 len1 m1, .slice b2 len2 m2], rfl, rfl, rfl, ⟨_, _, rfl, ?_, ?_⟩, below_setCells _ (by omega) _ _ _ r2.out.hb⟩
 ·exact g1H.out.kept StrR.stable (by omega) (by rw [size_setCells]; exact Nat.le_refl _) (Same.setCells _ _ _ _ (.inl (by omega)))
 ·exact g2H.out.kept StrR.stable (by omega) (by rw [size_setCells]; exact Nat.le_refl _) (Same.setCells _ _ _ _ (.inl (by omega)))
theorem toInsL_calls (x : InsL) (base : Nat) (hy : x.small) : ElemTo 138 9 InsR base x := by
 intro w row hbase hrx hrl
 have hinf : Hid ((Tryz.prog.info? 110).map (·.size) = some 9) := by show (Tryz.prog.info? 110).map (·.size) = some 9; kernel_rfl
 obtain ⟨v8, rfl, h8⟩ := hrx
 have c8H : Hid (∀ W, Below w.heap.size w W → Calls Tryz.prog 178 #[v8] W fun e w' => ∃ u, e = .returned u ∧ ListAt IntR 1 true W.heap.size w'.heap.size w' u x.zs ∧ Below W.heap.size W w') := fun W hW => toIntsL_calls v8 x.zs W base (Nat.le_trans hbase hW.size) (h8.kept IntR.stable (Nat.le_refl _) (Nat.le_refl _) ((Same.below hW).mono (Nat.zero_le _) hbase)) hy.2.2.2.2
 obtain ⟨a8, n8, rfl⟩ := h8.form
 obtain ⟨len8, hlen8⟩ : ∃ n, n = (x.zs).length := ⟨_, rfl⟩
 have hlen8H : Hid (len8 = (x.zs).length) := hlen8
 rw [← hlen8] at c8H ⊢
 clear hrl hbase h8 hlen8
 go_enter Tryz.func138, Tryz.ntmps138
 go_wp2_with fail
 obtain ⟨W0, hW0⟩ : ∃ W : World, W = ((w.alloc (.cells #[.int .i64 x.o, .int .i64 x.k, .int .i64 x.a, .int .i64 x.b, .string x.T, .string x.C, .string x.N, .string x.Y, .slice a8 len8 n8] 157)).alloc (.cells #[.int .i64 0, .int .i64 0, .int .i64 0, .int .i64 0, .string ⟨#[]⟩, .string ⟨#[]⟩, .string ⟨#[]⟩, .string ⟨#[]⟩, .slice none 0 0] 110)).alloc (.cells #[.int .i64 x.o, .int .i64 x.k, .int .i64 x.a, .int .i64 x.b, .string x.T, .string x.C, .string x.N, .string x.Y, .slice none 0 0] 110) := ⟨_, rfl⟩
 rw [← hW0]
 have r0 : Hid (Rec3 w W0 9 [.int .i64 x.o, .int .i64 x.k, .int .i64 x.a, .int .i64 x.b, .string x.T, .string x.C, .string x.N, .string x.Y, .slice a8 len8 n8] [.int .i64 x.o, .int .i64 x.k, .int .i64 x.a, .int .i64 x.b, .string x.T, .string x.C, .string x.N, .string x.Y, .slice none 0 0]) := Rec3.start hW0 rfl rfl
 clear hW0
 refine (c8H.out W0 r0.out.hb).mono ?_
 rintro e w1 ⟨u8, rfl, g8, hb1⟩
 obtain ⟨b8, m8, rfl⟩ := g8.form
 rw [← hlen8H.out] at g8 ⊢
 have rc1 : Hid (Rec3 w w1 9 [.int .i64 x.o, .int .i64 x.k, .int .i64 x.a, .int .i64 x.b, .string x.T, .string x.C, .string x.N, .string x.Y, .slice a8 len8 n8] [.int .i64 x.o, .int .i64 x.k, .int .i64 x.a, .int .i64 x.b, .string x.T, .string x.C, .string x.N, .string x.Y, .slice none 0 0]) := r0.out.call hb1
 have g8H : Hid (ListAt IntR 1 true (w.heap.size + 3) w1.heap.size w1 (.slice b8 len8 m8) x.zs) := g8.kept IntR.stable r0.out.sz (Nat.le_refl _) (Same.refl _ _ _)
 obtain ⟨⟨q1_8, xo1_8⟩, xf1_8⟩ := rc1.out.cellO 8 (by omega)
 clear g8 hb1
 have r1 : Hid (Rec3 w (w1.setCell ⟨w.heap.size + 1 + 1, 8, none⟩ (.slice b8 len8 m8)) 9 [.int .i64 x.o, .int .i64 x.k, .int .i64 x.a, .int .i64 x.b, .string x.T, .string x.C, .string x.N, .string x.Y, .slice a8 len8 n8] [.int .i64 x.o, .int .i64 x.k, .int .i64 x.a, .int .i64 x.b, .string x.T, .string x.C, .string x.N, .string x.Y, .slice b8 len8 m8]) := (rc1.out.set 8 (.slice b8 len8 m8) (by omega) rfl)
 have g8H : Hid (ListAt IntR 1 true (w.heap.size + 3) (w1.setCell ⟨w.heap.size + 1 + 1, 8, none⟩ (.slice b8 len8 m8)).heap.size (w1.setCell ⟨w.heap.size + 1 + 1, 8, none⟩ (.slice b8 len8 m8)) (.slice b8 len8 m8) x.zs) := g8H.out.kept IntR.stable (Nat.le_refl _) (by simp) (Same.trans (Same.refl _ _ _) (same_setCell _ _ _ _ (.inl (by omega))))
 go_wp2_with (first | (refine wpList_load_mid rfl 110 _ rfl (w.heap.size + 1 + 1) 0 rfl [.int .i64 x.o, .int .i64 x.k, .int .i64 x.a, .int .i64 x.b, .string x.T, .string x.C, .string x.N, .string x.Y, .slice b8 len8 m8] _ r1.out.o Tryz.underlying110 rfl hinf.out ?_) | (refine wpList_store_mid rfl 110 _ _ rfl (w.heap.size + 1) 0 #[.int .i64 x.o, .int .i64 x.k, .int .i64 x.a, .int .i64 x.b, .string x.T, .string x.C, .string x.N, .string x.Y, .slice b8 len8 m8] rfl rfl r1.out.z hinf.out (OneCells.all (row := [.int .i64 x.o, .int .i64 x.k, .int .i64 x.a, .int .i64 x.b, .string x.T, .string x.C, .string x.N, .string x.Y, .slice b8 len8 m8]) rfl) ?_))
 refine bodyPost_ret (v := .agg #[.int .i64 x.o, .int .i64 x.k, .int .i64 x.a, .int .i64 x.b, .string x.T, .string x.C, .string x.N, .string x.Y, .slice b8 len8 m8]) (results_cell_mid rfl _ _ (w.heap.size + 1) [.int .i64 x.o, .int .i64 x.k, .int .i64 x.a, .int .i64 x.b, .string x.T, .string x.C, .string x.N, .string x.Y, .slice b8 len8 m8] _ rfl (World.rangeAt_setCells_same _ _ _ _ r1.out.z) Tryz.underlying110 rfl hinf.out) rfl ⟨[.int .i64 x.o, .int .i64 x.k, .int .i64 x.a, .int .i64 x.b, .string x.T, .string x.C, .string x.N, .string x.Y, .slice b8 len8 m8], rfl, rfl, rfl, ⟨_, rfl, ?_⟩, below_setCells _ (by omega) _ _ _ r1.out.hb⟩
 ·exact g8H.out.kept IntR.stable (by omega) (by rw [size_setCells]; exact Nat.le_refl _) (Same.setCells _ _ _ _ (.inl (by omega)))
theorem toMeth_calls (x : MethL) (base : Nat) (hy : x.small) : ElemTo 79 9 MethR base x := by
 intro w row hbase hrx hrl
 have hinf : Hid ((Tryz.prog.info? 91).map (·.size) = some 9) := by show (Tryz.prog.info? 91).map (·.size) = some 9; kernel_rfl
 obtain ⟨v5, v6, v7, v8, rfl, h5, h6, h7, h8⟩ := hrx
 have c5H : Hid (∀ W, Below w.heap.size w W → Calls Tryz.prog 107 #[v5] W fun e w' => ∃ u, e = .returned u ∧ ListAt InsR 9 true W.heap.size w'.heap.size w' u x.code ∧ Below W.heap.size W w') := fun W hW => toInsS_calls v5 x.code W base (Nat.le_trans hbase hW.size) (h5.kept InsR.stable (Nat.le_refl _) (Nat.le_refl _) ((Same.below hW).mono (Nat.zero_le _) hbase)) hy.2.2.1.1 (fun y hy1 => toInsL_calls y base (hy.2.2.1.2 y hy1))
 have c6H : Hid (∀ W, Below w.heap.size w W → Calls Tryz.prog 108 #[v6] W fun e w' => ∃ u, e = .returned u ∧ ListAt HandR 4 true W.heap.size w'.heap.size w' u x.hands ∧ Below W.heap.size W w') := fun W hW => toHandS_calls v6 x.hands W base (Nat.le_trans hbase hW.size) (h6.kept HandR.stable (Nat.le_refl _) (Nat.le_refl _) ((Same.below hW).mono (Nat.zero_le _) hbase)) hy.2.2.2.1.1 (fun y hy1 => toHand_calls y base)
 have c7H : Hid (∀ W, Below w.heap.size w W → Calls Tryz.prog 109 #[v7] W fun e w' => ∃ u, e = .returned u ∧ ListAt FrameR 3 true W.heap.size w'.heap.size w' u x.frames ∧ Below W.heap.size W w') := fun W hW => toFrameS_calls v7 x.frames W base (Nat.le_trans hbase hW.size) (h7.kept FrameR.stable (Nat.le_refl _) (Nat.le_refl _) ((Same.below hW).mono (Nat.zero_le _) hbase)) hy.2.2.2.2.1.1 (fun y hy1 => toFrame_calls y base (hy.2.2.2.2.1.2 y hy1))
 have c8H : Hid (∀ W, Below w.heap.size w W → Calls Tryz.prog 110 #[v8] W fun e w' => ∃ u, e = .returned u ∧ ListAt LineR 2 true W.heap.size w'.heap.size w' u x.lines ∧ Below W.heap.size W w') := fun W hW => toLineS_calls v8 x.lines W base (Nat.le_trans hbase hW.size) (h8.kept LineR.stable (Nat.le_refl _) (Nat.le_refl _) ((Same.below hW).mono (Nat.zero_le _) hbase)) hy.2.2.2.2.2 (fun y hy1 => toLine_calls y base)
 obtain ⟨a5, n5, rfl⟩ := h5.form
 obtain ⟨len5, hlen5⟩ : ∃ n, n = (x.code).length := ⟨_, rfl⟩
 have hlen5H : Hid (len5 = (x.code).length) := hlen5
 rw [← hlen5] at c5H ⊢
 obtain ⟨a6, n6, rfl⟩ := h6.form
 obtain ⟨len6, hlen6⟩ : ∃ n, n = (x.hands).length := ⟨_, rfl⟩
 have hlen6H : Hid (len6 = (x.hands).length) := hlen6
 rw [← hlen6] at c6H ⊢
 obtain ⟨a7, n7, rfl⟩ := h7.form
 obtain ⟨len7, hlen7⟩ : ∃ n, n = (x.frames).length := ⟨_, rfl⟩
 have hlen7H : Hid (len7 = (x.frames).length) := hlen7
 rw [← hlen7] at c7H ⊢
 obtain ⟨a8, n8, rfl⟩ := h8.form
 obtain ⟨len8, hlen8⟩ : ∃ n, n = (x.lines).length := ⟨_, rfl⟩
 have hlen8H : Hid (len8 = (x.lines).length) := hlen8
 rw [← hlen8] at c8H ⊢
 clear hrl hbase h5 h6 h7 h8 hlen5 hlen6 hlen7 hlen8
 go_enter Tryz.func79, Tryz.ntmps79
 go_wp2_with fail
 obtain ⟨W0, hW0⟩ : ∃ W : World, W = ((w.alloc (.cells #[.string x.name, .string x.sig, .int .i64 x.flags, .int .i64 x.stack, .int .i64 x.locals, .slice a5 len5 n5, .slice a6 len6 n6, .slice a7 len7 n7, .slice a8 len8 n8] 107)).alloc (.cells #[.string ⟨#[]⟩, .string ⟨#[]⟩, .int .i64 0, .int .i64 0, .int .i64 0, .slice none 0 0, .slice none 0 0, .slice none 0 0, .slice none 0 0] 91)).alloc (.cells #[.string x.name, .string x.sig, .int .i64 x.flags, .int .i64 x.stack, .int .i64 x.locals, .slice none 0 0, .slice none 0 0, .slice none 0 0, .slice none 0 0] 91) := ⟨_, rfl⟩
 rw [← hW0]
 have r0 : Hid (Rec3 w W0 9 [.string x.name, .string x.sig, .int .i64 x.flags, .int .i64 x.stack, .int .i64 x.locals, .slice a5 len5 n5, .slice a6 len6 n6, .slice a7 len7 n7, .slice a8 len8 n8] [.string x.name, .string x.sig, .int .i64 x.flags, .int .i64 x.stack, .int .i64 x.locals, .slice none 0 0, .slice none 0 0, .slice none 0 0, .slice none 0 0]) := Rec3.start hW0 rfl rfl
 clear hW0
 refine (c5H.out W0 r0.out.hb).mono ?_
 rintro e w1 ⟨u5, rfl, g5, hb1⟩
 obtain ⟨b5, m5, rfl⟩ := g5.form
 rw [← hlen5H.out] at g5 ⊢
 have rc1 : Hid (Rec3 w w1 9 [.string x.name, .string x.sig, .int .i64 x.flags, .int .i64 x.stack, .int .i64 x.locals, .slice a5 len5 n5, .slice a6 len6 n6, .slice a7 len7 n7, .slice a8 len8 n8] [.string x.name, .string x.sig, .int .i64 x.flags, .int .i64 x.stack, .int .i64 x.locals, .slice none 0 0, .slice none 0 0, .slice none 0 0, .slice none 0 0]) := r0.out.call hb1
 have g5H : Hid (ListAt InsR 9 true (w.heap.size + 3) w1.heap.size w1 (.slice b5 len5 m5) x.code) := g5.kept InsR.stable r0.out.sz (Nat.le_refl _) (Same.refl _ _ _)
 have xi1_6 := rc1.out.cellI 6 _ rfl
 obtain ⟨⟨q1_5, xo1_5⟩, xf1_5⟩ := rc1.out.cellO 5 (by omega)
 clear g5 hb1
 have r1 : Hid (Rec3 w (w1.setCell ⟨w.heap.size + 1 + 1, 5, none⟩ (.slice b5 len5 m5)) 9 [.string x.name, .string x.sig, .int .i64 x.flags, .int .i64 x.stack, .int .i64 x.locals, .slice a5 len5 n5, .slice a6 len6 n6, .slice a7 len7 n7, .slice a8 len8 n8] [.string x.name, .string x.sig, .int .i64 x.flags, .int .i64 x.stack, .int .i64 x.locals, .slice b5 len5 m5, .slice none 0 0, .slice none 0 0, .slice none 0 0]) := (rc1.out.set 5 (.slice b5 len5 m5) (by omega) rfl)
 have g5H : Hid (ListAt InsR 9 true (w.heap.size + 3) (w1.setCell ⟨w.heap.size + 1 + 1, 5, none⟩ (.slice b5 len5 m5)).heap.size (w1.setCell ⟨w.heap.size + 1 + 1, 5, none⟩ (.slice b5 len5 m5)) (.slice b5 len5 m5) x.code) := g5H.out.kept InsR.stable (Nat.le_refl _) (by simp) (Same.trans (Same.refl _ _ _) (same_setCell _ _ _ _ (.inl (by omega))))
 go_wp2_with fail
 obtain ⟨W1, hW1⟩ : ∃ W : World, W = (w1.setCell ⟨w.heap.size + 1 + 1, 5, none⟩ (.slice b5 len5 m5)) := ⟨_, rfl⟩
 rw [← hW1] at r1 g5H ⊢
 clear hW1 rc1 xi1_6 xo1_5 xf1_5
 refine (c6H.out W1 r1.out.hb).mono ?_
 rintro e w2 ⟨u6, rfl, g6, hb2⟩
 obtain ⟨b6, m6, rfl⟩ := g6.form
 rw [← hlen6H.out] at g6 ⊢
 have rc2 : Hid (Rec3 w w2 9 [.string x.name, .string x.sig, .int .i64 x.flags, .int .i64 x.stack, .int .i64 x.locals, .slice a5 len5 n5, .slice a6 len6 n6, .slice a7 len7 n7, .slice a8 len8 n8] [.string x.name, .string x.sig, .int .i64 x.flags, .int .i64 x.stack, .int .i64 x.locals, .slice b5 len5 m5, .slice none 0 0, .slice none 0 0, .slice none 0 0]) := r1.out.call hb2
 have g6H : Hid (ListAt HandR 4 true (w.heap.size + 3) w2.heap.size w2 (.slice b6 len6 m6) x.hands) := g6.kept HandR.stable r1.out.sz (Nat.le_refl _) (Same.refl _ _ _)
 have g5H : Hid (ListAt InsR 9 true (w.heap.size + 3) w2.heap.size w2 (.slice b5 len5 m5) x.code) := g5H.out.kept InsR.stable (Nat.le_refl _) hb2.size ((Same.below hb2).mono (Nat.zero_le _) (Nat.le_refl _))
 have xi2_7 := rc2.out.cellI 7 _ rfl
 obtain ⟨⟨q2_6, xo2_6⟩, xf2_6⟩ := rc2.out.cellO 6 (by omega)
 clear g6 hb2
 have r2 : Hid (Rec3 w (w2.setCell ⟨w.heap.size + 1 + 1, 6, none⟩ (.slice b6 len6 m6)) 9 [.string x.name, .string x.sig, .int .i64 x.flags, .int .i64 x.stack, .int .i64 x.locals, .slice a5 len5 n5, .slice a6 len6 n6, .slice a7 len7 n7, .slice a8 len8 n8] [.string x.name, .string x.sig, .int .i64 x.flags, .int .i64 x.stack, .int .i64 x.locals, .slice b5 len5 m5, .slice b6 len6 m6, .slice none 0 0, .slice none 0 0]) := (rc2.out.set 6 (.slice b6 len6 m6) (by omega) rfl)
 have g5H : Hid (ListAt InsR 9 true (w.heap.size + 3) (w2.setCell ⟨w.heap.size + 1 + 1, 6, none⟩ (.slice b6 len6 m6)).heap.size (w2.setCell ⟨w.heap.size + 1 + 1, 6, none⟩ (.slice b6 len6 m6)) (.slice b5 len5 m5) x.code) := g5H.out.kept InsR.stable (Nat.le_refl _) (by simp) (Same.trans (Same.refl _ _ _) (same_setCell _ _ _ _ (.inl (by omega))))
 have g6H : Hid (ListAt HandR 4 true (w.heap.size + 3) (w2.setCell ⟨w.heap.size + 1 + 1, 6, none⟩ (.slice b6 len6 m6)).heap.size (w2.setCell ⟨w.heap.size + 1 + 1, 6, none⟩ (.slice b6 len6 m6)) (.slice b6 len6 m6) x.hands) := g6H.out.kept HandR.stable (Nat.le_refl _) (by simp) (Same.trans (Same.refl _ _ _) (same_setCell _ _ _ _ (.inl (by omega))))
 go_wp2_with fail
 obtain ⟨W2, hW2⟩ : ∃ W : World, W = (w2.setCell ⟨w.heap.size + 1 + 1, 6, none⟩ (.slice b6 len6 m6)) := ⟨_, rfl⟩
 rw [← hW2] at r2 g5H g6H ⊢
 clear hW2 rc2 xi2_7 xo2_6 xf2_6
 refine (c7H.out W2 r2.out.hb).mono ?_
 rintro e w3 ⟨u7, rfl, g7, hb3⟩
 obtain ⟨b7, m7, rfl⟩ := g7.form
 rw [← hlen7H.out] at g7 ⊢
 have rc3 : Hid (Rec3 w w3 9 [.string x.name, .string x.sig, .int .i64 x.flags, .int .i64 x.stack, .int .i64 x.locals, .slice a5 len5 n5, .slice a6 len6 n6, .slice a7 len7 n7, .slice a8 len8 n8] [.string x.name, .string x.sig, .int .i64 x.flags, .int .i64 x.stack, .int .i64 x.locals, .slice b5 len5 m5, .slice b6 len6 m6, .slice none 0 0, .slice none 0 0]) := r2.out.call hb3
 have g7H : Hid (ListAt FrameR 3 true (w.heap.size + 3) w3.heap.size w3 (.slice b7 len7 m7) x.frames) := g7.kept FrameR.stable r2.out.sz (Nat.le_refl _) (Same.refl _ _ _)
 have g5H : Hid (ListAt InsR 9 true (w.heap.size + 3) w3.heap.size w3 (.slice b5 len5 m5) x.code) := g5H.out.kept InsR.stable (Nat.le_refl _) hb3.size ((Same.below hb3).mono (Nat.zero_le _) (Nat.le_refl _))
 have g6H : Hid (ListAt HandR 4 true (w.heap.size + 3) w3.heap.size w3 (.slice b6 len6 m6) x.hands) := g6H.out.kept HandR.stable (Nat.le_refl _) hb3.size ((Same.below hb3).mono (Nat.zero_le _) (Nat.le_refl _))
 have xi3_8 := rc3.out.cellI 8 _ rfl
 obtain ⟨⟨q3_7, xo3_7⟩, xf3_7⟩ := rc3.out.cellO 7 (by omega)
 clear g7 hb3
 have r3 : Hid (Rec3 w (w3.setCell ⟨w.heap.size + 1 + 1, 7, none⟩ (.slice b7 len7 m7)) 9 [.string x.name, .string x.sig, .int .i64 x.flags, .int .i64 x.stack, .int .i64 x.locals, .slice a5 len5 n5, .slice a6 len6 n6, .slice a7 len7 n7, .slice a8 len8 n8] [.string x.name, .string x.sig, .int .i64 x.flags, .int .i64 x.stack, .int .i64 x.locals, .slice b5 len5 m5, .slice b6 len6 m6, .slice b7 len7 m7, .slice none 0 0]) := (rc3.out.set 7 (.slice b7 len7 m7) (by omega) rfl)
 have g5H : Hid (ListAt InsR 9 true (w.heap.size + 3) (w3.setCell ⟨w.heap.size + 1 + 1, 7, none⟩ (.slice b7 len7 m7)).heap.size (w3.setCell ⟨w.heap.size + 1 + 1, 7, none⟩ (.slice b7 len7 m7)) (.slice b5 len5 m5) x.code) := g5H.out.kept InsR.stable (Nat.le_refl _) (by simp) (Same.trans (Same.refl _ _ _) (same_setCell _ _ _ _ (.inl (by omega))))
 have g6H : Hid (ListAt HandR 4 true (w.heap.size + 3) (w3.setCell ⟨w.heap.size + 1 + 1, 7, none⟩ (.slice b7 len7 m7)).heap.size (w3.setCell ⟨w.heap.size + 1 + 1, 7, none⟩ (.slice b7 len7 m7)) (.slice b6 len6 m6) x.hands) := g6H.out.kept HandR.stable (Nat.le_refl _) (by simp) (Same.trans (Same.refl _ _ _) (same_setCell _ _ _ _ (.inl (by omega))))
 have g7H : Hid (ListAt FrameR 3 true (w.heap.size + 3) (w3.setCell ⟨w.heap.size + 1 + 1, 7, none⟩ (.slice b7 len7 m7)).heap.size (w3.setCell ⟨w.heap.size + 1 + 1, 7, none⟩ (.slice b7 len7 m7)) (.slice b7 len7 m7) x.frames) := g7H.out.kept FrameR.stable (Nat.le_refl _) (by simp) (Same.trans (Same.refl _ _ _) (same_setCell _ _ _ _ (.inl (by omega))))
 go_wp2_with fail
 obtain ⟨W3, hW3⟩ : ∃ W : World, W = (w3.setCell ⟨w.heap.size + 1 + 1, 7, none⟩ (.slice b7 len7 m7)) := ⟨_, rfl⟩
 rw [← hW3] at r3 g5H g6H g7H ⊢
 clear hW3 rc3 xi3_8 xo3_7 xf3_7
 refine (c8H.out W3 r3.out.hb).mono ?_
 rintro e w4 ⟨u8, rfl, g8, hb4⟩
 obtain ⟨b8, m8, rfl⟩ := g8.form
 rw [← hlen8H.out] at g8 ⊢
 have rc4 : Hid (Rec3 w w4 9 [.string x.name, .string x.sig, .int .i64 x.flags, .int .i64 x.stack, .int .i64 x.locals, .slice a5 len5 n5, .slice a6 len6 n6, .slice a7 len7 n7, .slice a8 len8 n8] [.string x.name, .string x.sig, .int .i64 x.flags, .int .i64 x.stack, .int .i64 x.locals, .slice b5 len5 m5, .slice b6 len6 m6, .slice b7 len7 m7, .slice none 0 0]) := r3.out.call hb4
 have g8H : Hid (ListAt LineR 2 true (w.heap.size + 3) w4.heap.size w4 (.slice b8 len8 m8) x.lines) := g8.kept LineR.stable r3.out.sz (Nat.le_refl _) (Same.refl _ _ _)
 have g5H : Hid (ListAt InsR 9 true (w.heap.size + 3) w4.heap.size w4 (.slice b5 len5 m5) x.code) := g5H.out.kept InsR.stable (Nat.le_refl _) hb4.size ((Same.below hb4).mono (Nat.zero_le _) (Nat.le_refl _))
 have g6H : Hid (ListAt HandR 4 true (w.heap.size + 3) w4.heap.size w4 (.slice b6 len6 m6) x.hands) := g6H.out.kept HandR.stable (Nat.le_refl _) hb4.size ((Same.below hb4).mono (Nat.zero_le _) (Nat.le_refl _))
 have g7H : Hid (ListAt FrameR 3 true (w.heap.size + 3) w4.heap.size w4 (.slice b7 len7 m7) x.frames) := g7H.out.kept FrameR.stable (Nat.le_refl _) hb4.size ((Same.below hb4).mono (Nat.zero_le _) (Nat.le_refl _))
 obtain ⟨⟨q4_8, xo4_8⟩, xf4_8⟩ := rc4.out.cellO 8 (by omega)
 clear g8 hb4
 have r4 : Hid (Rec3 w (w4.setCell ⟨w.heap.size + 1 + 1, 8, none⟩ (.slice b8 len8 m8)) 9 [.string x.name, .string x.sig, .int .i64 x.flags, .int .i64 x.stack, .int .i64 x.locals, .slice a5 len5 n5, .slice a6 len6 n6, .slice a7 len7 n7, .slice a8 len8 n8] [.string x.name, .string x.sig, .int .i64 x.flags, .int .i64 x.stack, .int .i64 x.locals, .slice b5 len5 m5, .slice b6 len6 m6, .slice b7 len7 m7, .slice b8 len8 m8]) := (rc4.out.set 8 (.slice b8 len8 m8) (by omega) rfl)
 have g5H : Hid (ListAt InsR 9 true (w.heap.size + 3) (w4.setCell ⟨w.heap.size + 1 + 1, 8, none⟩ (.slice b8 len8 m8)).heap.size (w4.setCell ⟨w.heap.size + 1 + 1, 8, none⟩ (.slice b8 len8 m8)) (.slice b5 len5 m5) x.code) := g5H.out.kept InsR.stable (Nat.le_refl _) (by simp) (Same.trans (Same.refl _ _ _) (same_setCell _ _ _ _ (.inl (by omega))))
 have g6H : Hid (ListAt HandR 4 true (w.heap.size + 3) (w4.setCell ⟨w.heap.size + 1 + 1, 8, none⟩ (.slice b8 len8 m8)).heap.size (w4.setCell ⟨w.heap.size + 1 + 1, 8, none⟩ (.slice b8 len8 m8)) (.slice b6 len6 m6) x.hands) := g6H.out.kept HandR.stable (Nat.le_refl _) (by simp) (Same.trans (Same.refl _ _ _) (same_setCell _ _ _ _ (.inl (by omega))))
 have g7H : Hid (ListAt FrameR 3 true (w.heap.size + 3) (w4.setCell ⟨w.heap.size + 1 + 1, 8, none⟩ (.slice b8 len8 m8)).heap.size (w4.setCell ⟨w.heap.size + 1 + 1, 8, none⟩ (.slice b8 len8 m8)) (.slice b7 len7 m7) x.frames) := g7H.out.kept FrameR.stable (Nat.le_refl _) (by simp) (Same.trans (Same.refl _ _ _) (same_setCell _ _ _ _ (.inl (by omega))))
 have g8H : Hid (ListAt LineR 2 true (w.heap.size + 3) (w4.setCell ⟨w.heap.size + 1 + 1, 8, none⟩ (.slice b8 len8 m8)).heap.size (w4.setCell ⟨w.heap.size + 1 + 1, 8, none⟩ (.slice b8 len8 m8)) (.slice b8 len8 m8) x.lines) := g8H.out.kept LineR.stable (Nat.le_refl _) (by simp) (Same.trans (Same.refl _ _ _) (same_setCell _ _ _ _ (.inl (by omega))))
 go_wp2_with (first | (refine wpList_load_mid rfl 91 _ rfl (w.heap.size + 1 + 1) 0 rfl [.string x.name, .string x.sig, .int .i64 x.flags, .int .i64 x.stack, .int .i64 x.locals, .slice b5 len5 m5, .slice b6 len6 m6, .slice b7 len7 m7, .slice b8 len8 m8] _ r4.out.o Tryz.underlying91 rfl hinf.out ?_) | (refine wpList_store_mid rfl 91 _ _ rfl (w.heap.size + 1) 0 #[.string x.name, .string x.sig, .int .i64 x.flags, .int .i64 x.stack, .int .i64 x.locals, .slice b5 len5 m5, .slice b6 len6 m6, .slice b7 len7 m7, .slice b8 len8 m8] rfl rfl r4.out.z hinf.out (OneCells.all (row := [.string x.name, .string x.sig, .int .i64 x.flags, .int .i64 x.stack, .int .i64 x.locals, .slice b5 len5 m5, .slice b6 len6 m6, .slice b7 len7 m7, .slice b8 len8 m8]) rfl) ?_))
 refine bodyPost_ret (v := .agg #[.string x.name, .string x.sig, .int .i64 x.flags, .int .i64 x.stack, .int .i64 x.locals, .slice b5 len5 m5, .slice b6 len6 m6, .slice b7 len7 m7, .slice b8 len8 m8]) (results_cell_mid rfl _ _ (w.heap.size + 1) [.string x.name, .string x.sig, .int .i64 x.flags, .int .i64 x.stack, .int .i64 x.locals, .slice b5 len5 m5, .slice b6 len6 m6, .slice b7 len7 m7, .slice b8 len8 m8] _ rfl (World.rangeAt_setCells_same _ _ _ _ r4.out.z) Tryz.underlying91 rfl hinf.out) rfl ⟨[.string x.name, .string x.sig, .int .i64 x.flags, .int .i64 x.stack, .int .i64 x.locals, .slice b5 len5 m5, .slice b6 len6 m6, .slice b7 len7 m7, .slice b8 len8 m8], rfl, rfl, rfl, ⟨_, _, _, _, rfl, ?_, ?_, ?_, ?_⟩, below_setCells _ (by omega) _ _ _ r4.out.hb⟩
 ·exact g5H.out.kept InsR.stable (by omega) (by rw [size_setCells]; exact Nat.le_refl _) (Same.setCells _ _ _ _ (.inl (by omega)))
 ·exact g6H.out.kept HandR.stable (by omega) (by rw [size_setCells]; exact Nat.le_refl _) (Same.setCells _ _ _ _ (.inl (by omega)))
 ·exact g7H.out.kept FrameR.stable (by omega) (by rw [size_setCells]; exact Nat.le_refl _) (Same.setCells _ _ _ _ (.inl (by omega)))
 ·exact g8H.out.kept LineR.stable (by omega) (by rw [size_setCells]; exact Nat.le_refl _) (Same.setCells _ _ _ _ (.inl (by omega)))
end Go.Proofs.YtjjccimeikkogaaGreatDoor
