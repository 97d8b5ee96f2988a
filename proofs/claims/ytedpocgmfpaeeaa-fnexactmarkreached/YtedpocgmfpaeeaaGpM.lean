/- The program's map of objects by their ids, and the function that takes from it. -/
import Derived.Test.YtedpocgmfpaeeaaGlG
import Derived.Test.YtedpocgmfpaeeaaGpP
import Derived.Maps.OwnSet
namespace Go.Proofs.Ytedpocgmfpaeeaa
set_option linter.unusedVariables false
open Go.ChangeShapes Go.WideShapes Go.ChangeAt Go.RowKit Go.Maps

theorem keyI : Keyed Try.prog 2 := int_keyed Try.underlying2
theorem zeroP (w : World) : (zeroValue 59).run Try.prog w = .ok (.slice none 0 0) w := by kernel_rfl
/-- A value of the map is read as itself. -/
def RV : Value → Option (DataW Value × List MemPlace) := fun v => some (.held v, [])
def nilV : Value := .slice none 0 0
/-- Pointers to objects. -/
def ptrsV (b : Nat) (ks : List Nat) : List Value := ks.map fun i => .pointer (some ⟨b, i * 5, none⟩)
theorem ptrsV_length (b : Nat) (ks : List Nat) : (ptrsV b ks).length = ks.length * 1 := by simp [ptrsV]
theorem ptrsV_append (b : Nat) (ks ls : List Nat) : ptrsV b (ks ++ ls) = ptrsV b ks ++ ptrsV b ls := by simp [ptrsV]
theorem ptrsV_one (b : Nat) (ks : List Nat) : ∀ u ∈ ptrsV b ks, u.oneCell' = true := fun u hu => by
  simp only [ptrsV, List.mem_map] at hu
  obtain ⟨i, _, rfl⟩ := hu
  rfl
/-- The map M holds g z for every z that f tells something of. -/
structure MapOf (w : World) (M n : Nat) (f : Int → List Nat) (g : Int → Value) (D : DataW Value) : Prop where
  own : w.ownsMap Try.prog 2 RV M n D
  has : ∀ z : Int, Maps.has D (.int .i64 z) = !(f z).isEmpty
  at_ : ∀ z : Int, D.atKey (.int .i64 z) (.held nilV) = .held (if (f z).isEmpty then nilV else g z)
/-- The rows that g tells, of pointers into b0. -/
structure RowsOf (w : World) (B b0 : Nat) (f : Int → List Nat) (g : Int → Value) : Prop where
  row : ∀ z, f z ≠ [] → w.ownsRow B 58 1 (g z) (f z).length (ptrsV b0 (f z))
  apart : ∀ z z', f z ≠ [] → f z' ≠ [] → z ≠ z' → (g z).ownBlock ≠ (g z').ownBlock
theorem MapOf.kept {w w' : World} {M n : Nat} {f : Int → List Nat} {g : Int → Value} {D : DataW Value} (h : MapOf w M n f g D) (hb : w'.heap[M]? = w.heap[M]?) : MapOf w' M n f g D := by
  obtain ⟨⟨es, clock, h1, h2⟩, h3, h4⟩ := h
  exact ⟨⟨es, clock, by rw [hb]; exact h1, h2⟩, h3, h4⟩
theorem MapOf.del {w w' : World} {M n : Nat} {f : Int → List Nat} {g : Int → Value} {D : DataW Value} {z : Int} (h : MapOf w M n f g D) (ho : w'.ownsMap Try.prog 2 RV M n (D.del (.int .i64 z))) : MapOf w' M n (fun y => if y = z then [] else f y) g (D.del (.int .i64 z)) := by
  refine ⟨ho, fun y => ?_, fun y => ?_⟩
  · by_cases e : y = z
    · subst e
      simp [has_del_same]
    · rw [has_del_other (by simpa using e), h.has, if_neg e]
  · by_cases e : y = z
    · subst e
      simp [atKey_del_same]
    · rw [atKey_del_other (by simpa using e), h.at_, if_neg e]
theorem MapOf.put {w w' : World} {M n : Nat} {f : Int → List Nat} {g : Int → Value} {D : DataW Value} {z : Int} {k : Nat} {v : Value} (h : MapOf w M n f g D) (ho : w'.ownsMap Try.prog 2 RV M (n + 1) (D.put (.int .i64 z) (.held v))) : MapOf w' M (n + 1) (fun y => if y = z then f y ++ [k] else f y) (fun y => if y = z then v else g y) (D.put (.int .i64 z) (.held v)) := by
  refine ⟨ho, fun y => ?_, fun y => ?_⟩
  · by_cases e : y = z
    · subst e
      rw [has_put_same h.own.isMap (k := .int .i64 y) trivial]; simp
    · rw [has_put_other (by simpa using e), h.has, if_neg e]
  · by_cases e : y = z
    · subst e
      rw [atKey_put_same h.own.isMap (k := .int .i64 y) trivial]; simp
    · rw [atKey_put_other (by simpa using e), h.at_, if_neg e, if_neg e]
/-- What the map tells of z once the ids lv are gone from it. -/
theorem retL_del (objs : List GobL) (lv : List Int) (z : Int) (h : retL objs lv z ≠ []) : (fun y => if y = z then [] else retL objs lv y) = retL objs (comeG objs lv z) := by
  funext y
  unfold comeG
  rw [if_neg h]
  by_cases e : y = z
  · subst e
    simp [retL]
  · simp [retL, e]
/-- Where the search stands in memory: wB is the world ahead of it, V the map's variable, M the map, L what is found's variable. -/
structure CoW (wB wr : World) (V M L : Nat) (objs : List GobL) (g : Int → Value) (lv : List Int) (lvv : Value) : Prop where
  os : wr.os = wB.os
  tape : wr.tape = wB.tape
  output : wr.output = wB.output
  siz : wB.heap.size ≤ wr.heap.size
  old : ∀ k, k < wB.heap.size → k ≠ M → k ≠ L → wr.heap[k]? = wB.heap[k]?
  vlt : V < wB.heap.size
  llt : L < wB.heap.size
  mlt : M < wB.heap.size
  ne : V ≠ M ∧ V ≠ L ∧ M ≠ L
  vc : wB.cell? ⟨V, 0, none⟩ = some (.map (some M))
  lb : ∃ u, wr.heap[L]? = some (.cells #[u] 23 (0, 0))
  lc : wr.cell? ⟨L, 0, none⟩ = some lvv
  lo : wr.ownsRow wB.heap.size 2 1 lvv lv.length (intsV lv)
  mp : ∃ D, MapOf wr M objs.length (retL objs lv) g D
theorem CoW.vcell {wB wr : World} {V M L : Nat} {objs : List GobL} {g : Int → Value} {lv : List Int} {lvv : Value} (h : CoW wB wr V M L objs g lv lvv) : wr.cell? ⟨V, 0, none⟩ = some (.map (some M)) :=
  (World.cell?_of_block (w := wB) (h.old V h.vlt h.ne.1 h.ne.2.1)).trans h.vc
theorem CoW.lfz {wB wr : World} {V M L : Nat} {objs : List GobL} {g : Int → Value} {lv : List Int} {lvv : Value} (h : CoW wB wr V M L objs g lv lvv) : wr.frozen? ⟨L, 0, none⟩ = false := by
  obtain ⟨u, hu⟩ := h.lb
  simp [World.frozen?, hu]
/-- The world changes nowhere where the search stands. -/
theorem CoW.kept {wB wr w' : World} {V M L : Nat} {objs : List GobL} {g : Int → Value} {lv : List Int} {lvv : Value} (h : CoW wB wr V M L objs g lv lvv) {row : Option Nat} (hg : wr.grownBy w' row) (hrow : ∀ k, row = some k → wB.heap.size ≤ k ∧ lvv.ownBlock ≠ some k) : CoW wB w' V M L objs g lv lvv := by
  have hs := hg.size
  have h0 := h.siz
  have kp : ∀ k, k < wB.heap.size → w'.heap[k]? = wr.heap[k]? := fun k hk => hg.block k (by omega) fun e => by have := (hrow k e.symm).1; omega
  refine ⟨hg.os.trans h.os, hg.tape.trans h.tape, hg.output.trans h.output, by omega, fun k hk h1 h2 => (kp k hk).trans (h.old k hk h1 h2), h.vlt, h.llt, h.mlt, h.ne, h.vc, ?_, ?_, ?_, ?_⟩
  · rw [kp L h.llt]; exact h.lb
  · exact (World.cell?_of_block (w := wr) (kp L h.llt)).trans h.lc
  · exact own_kept h.lo fun k hk => hg.block k (World.ownsRow.lt h.lo k hk).2 fun e => (hrow k e.symm).2 hk
  · obtain ⟨D, hD⟩ := h.mp
    exact ⟨D, hD.kept (kp M h.mlt)⟩
end Go.Proofs.Ytedpocgmfpaeeaa
