import Derived.Test.YtjjccimeikkogaaGreatDoorLkP
import Derived.Test.YtjjccimeikkogaaGreatDoorGnC
namespace Go.Proofs.YtjjccimeikkogaaGreatDoor
set_option linter.unusedVariables false
open Go.ChangeShapes Go.WideShapes Go.ChangeAt Go.RowKit
def atZ (all : List ClassL) (s : List UInt8) : Int := match atL all s with
 | some k => (k : Int)
 | none => -1
def atFrom (all : List ClassL) (m : Nat) (s : List UInt8) : Int := match atL (all.drop m) s with
 | some k => ((m + k : Nat) : Int)
 | none => -1
theorem atFrom_zero (all : List ClassL) (s : List UInt8) : atFrom all 0 s = atZ all s := by
 unfold atFrom atZ
 rw [List.drop_zero]
 cases atL all s <;> simp
theorem atFrom_step {all : List ClassL} {m : Nat} (h : m < all.length) (s : List UInt8) : atFrom all m s = if all[m].name.toList = s then (m : Int) else atFrom all (m + 1) s := by
 unfold atFrom
 rw [List.drop_eq_getElem_cons h, atL]
 by_cases e : all[m].name.toList = s
 ·rw [if_pos e, if_pos e]; simp
 ·rw [if_neg e, if_neg e]
  cases atL (all.drop (m + 1)) s with
  | none => rfl
  | some k => simp; omega
theorem atFrom_end {all : List ClassL} {m : Nat} (h : all.length ≤ m) (s : List UInt8) : atFrom all m s = -1 := by
 unfold atFrom
 rw [List.drop_eq_nil_of_le h]
 rfl
theorem str_beq (y x : ByteArray) : (y.toList == x.toList) = decide (y.toList = x.toList) := by
 rw [Bool.eq_iff_iff, beq_iff_eq, decide_eq_true_iff]
def LstK {α : Type} (R : Nat → World → List Value → α → Prop) (k B : Nat) (w : World) (v : Value) (xs : List α) : Prop :=
 (v = .slice none 0 0 ∧ xs = []) ∨ ∃ b off c, v = .slice (some ⟨b, off, none⟩) xs.length c ∧ b < B ∧ ∀ j (h : j < xs.length), ∃ row, row.length = k ∧ w.rangeAt b (off + j * k) row ∧ R B w row xs[j]
def KeptK {α : Type} (R : Nat → World → List Value → α → Prop) : Prop := ∀ B B' w w' row x, R B w row x → B ≤ B' → Same 0 B w w' → R B' w' row x
theorem LstK.kept {α : Type} {R : Nat → World → List Value → α → Prop} (hR : KeptK R) {k B B' : Nat} {w w' : World} {v : Value} {xs : List α} (h : LstK R k B w v xs) (hB : B ≤ B') (hs : Same 0 B w w') : LstK R k B' w' v xs := by
 rcases h with h | ⟨b, off, c, rfl, hb, hx⟩
 ·exact .inl h
 ·refine .inr ⟨b, off, c, rfl, by omega, fun j hj => ?_⟩
  obtain ⟨row, h1, h2, h3⟩ := hx j hj
  exact ⟨row, h1, rangeAt_same hs (Nat.zero_le _) hb h2, hR _ _ _ _ _ _ h3 hB hs⟩
theorem LstK.form {α : Type} {R : Nat → World → List Value → α → Prop} {k B : Nat} {w : World} {v : Value} {xs : List α} (h : LstK R k B w v xs) : ∃ a c, v = .slice a xs.length c := by
 rcases h with ⟨rfl, rfl⟩ | ⟨b, off, c, rfl, _⟩
 ·exact ⟨_, _, rfl⟩
 ·exact ⟨_, _, rfl⟩
theorem LstK.at {α : Type} {R : Nat → World → List Value → α → Prop} {k B : Nat} {w : World} {a : Option Addr} {n c : Nat} {xs : List α} (h : LstK R k B w (.slice a n c) xs) (j : Nat) (hj : j < xs.length) :
  ∃ b off row, a = some ⟨b, off, none⟩ ∧ b < B ∧ row.length = k ∧ w.rangeAt b (off + j * k) row ∧ R B w row xs[j] := by
 rcases h with ⟨_, rfl⟩ | ⟨b, off, c, e, hb, hx⟩
 ·simp at hj
 ·injection e with e1 e2 e3
  subst e1
  obtain ⟨row, h1, h2, h3⟩ := hx j hj
  exact ⟨b, off, row, rfl, hb, h1, h2, h3⟩
theorem LstK.len {α : Type} {R : Nat → World → List Value → α → Prop} {k B : Nat} {w : World} {a : Option Addr} {n c : Nat} {xs : List α} (h : LstK R k B w (.slice a n c) xs) : xs.length = n := by
 obtain ⟨a', c', e⟩ := h.form
 injection e with _ e _
 exact e.symm
def StrK : Nat → World → List Value → ByteArray → Prop := fun _ _ row s => row = [.string s]
def FldK : Nat → World → List Value → FieldL → Prop := fun _ _ row x => row = [.string x.name, .string x.ty, .int .i64 x.flags]
def MthK : Nat → World → List Value → MethL → Prop := fun _ _ row x => ∃ c h f l, row = [.string x.name, .string x.sig, .int .i64 x.flags, .int .i64 x.stack, .int .i64 x.locals, c, h, f, l]
def ClsK : Nat → World → List Value → ClassL → Prop := fun B w row x => ∃ p q s t, row = [.string x.name, .string x.super, p, .int .i64 x.flags, q, s, t] ∧ LstK StrK 1 B w p x.ifs ∧ LstK StrK 1 B w q x.perms ∧ LstK FldK 3 B w s x.fields ∧ LstK MthK 9 B w t x.meths
theorem StrK.kept : KeptK StrK := fun _ _ _ _ _ _ h _ _ => h
theorem FldK.kept : KeptK FldK := fun _ _ _ _ _ _ h _ _ => h
theorem MthK.kept : KeptK MthK := fun _ _ _ _ _ _ h _ _ => h
theorem ClsK.kept : KeptK ClsK := fun _ _ _ _ _ _ ⟨p, q, s, t, e, h1, h2, h3, h4⟩ hB hs => ⟨p, q, s, t, e, h1.kept StrK.kept hB hs, h2.kept StrK.kept hB hs, h3.kept FldK.kept hB hs, h4.kept MthK.kept hB hs⟩
abbrev AllAt (B : Nat) (w : World) (v : Value) (all : List ClassL) : Prop := LstK ClsK 7 B w v all
theorem AllAt.below {B : Nat} {w w' : World} {v : Value} {all : List ClassL} (h : AllAt B w v all) (hb : Below B w w') : AllAt B w' v all := LstK.kept ClsK.kept h (Nat.le_refl _) (Same.below hb)
theorem AllAt.below' {B : Nat} {w w' : World} {v : Value} {all : List ClassL} (h : AllAt B w v all) (hB : B ≤ w.heap.size) (hb : Below w.heap.size w w') : AllAt B w' v all := h.below (hb.mono hB)
structure CellC (w : World) (b o : Nat) (x : ClassL) (p q s t : Value) : Prop where
 e0 : w.cell? ⟨b, o, none⟩ = some (.string x.name)
 e1 : w.cell? ⟨b, o + 1, none⟩ = some (.string x.super)
 e2 : w.cell? ⟨b, o + 2, none⟩ = some p
 e3 : w.cell? ⟨b, o + 3, none⟩ = some (.int .i64 x.flags)
 e4 : w.cell? ⟨b, o + 4, none⟩ = some q
 e5 : w.cell? ⟨b, o + 5, none⟩ = some s
 e6 : w.cell? ⟨b, o + 6, none⟩ = some t
theorem AllAt.class {B : Nat} {w : World} {a : Option Addr} {n c : Nat} {all : List ClassL} (h : AllAt B w (.slice a n c) all) (k : Nat) (hk : k < all.length) :
  ∃ b off p q s t, a = some ⟨b, off, none⟩ ∧ b < B ∧ CellC w b (off + k * 7) all[k] p q s t ∧ LstK StrK 1 B w p all[k].ifs ∧ LstK StrK 1 B w q all[k].perms ∧ LstK FldK 3 B w s all[k].fields ∧ LstK MthK 9 B w t all[k].meths := by
 obtain ⟨b, off, row, rfl, hb, hl, hr, p, q, s, t, rfl, h1, h2, h3, h4⟩ := LstK.at h k hk
 exact ⟨b, off, p, q, s, t, rfl, hb, ⟨hr 0 _ rfl, hr 1 _ rfl, hr 2 _ rfl, hr 3 _ rfl, hr 4 _ rfl, hr 5 _ rfl, hr 6 _ rfl⟩, h1, h2, h3, h4⟩
def NamesAt (w : World) (a : Option Addr) (all : List ClassL) : Prop := ∀ k (h : k < all.length), ∃ b off, a = some ⟨b, off, none⟩ ∧ w.cell? ⟨b, off + k * 7, none⟩ = some (.string all[k].name)
theorem AllAt.names {B : Nat} {w : World} {a : Option Addr} {n c : Nat} {all : List ClassL} (h : AllAt B w (.slice a n c) all) : NamesAt w a all := fun k hk => by
 obtain ⟨b, off, p, q, s, t, rfl, _, hc, _⟩ := h.class k hk
 exact ⟨b, off, rfl, hc.e0⟩
set_option maxRecDepth 1000000 in
set_option maxHeartbeats 1000000 in
theorem at6_calls (a : Option Addr) (n c : Nat) (s : ByteArray) (all : List ClassL) (w : World) (hxn : all.length = n) (hn : n ≤ 1048576) (hc : NamesAt w a all) :
  Calls Tryz.prog 43 #[.slice a n c, .string s] w fun e w' => e = .returned (.int .i64 (atZ all s.toList)) ∧ w' = w := by
 have hcH : Hid (NamesAt w a all) := hc
 have hnH : Hid (all.length = n) := hxn
 obtain ⟨R, hR⟩ : ∃ R, atZ all s.toList = R := ⟨_, rfl⟩
 rw [hR]
 have hRH : Hid (atFrom all 0 s.toList = R) := by show _ = _; rw [atFrom_zero]; exact hR
 clear hR hc hxn
 go_enter Tryz.func43, Tryz.ntmps43
 go_wp2
 go_loopw [5] (fun i wr => ∃ m : Nat, m ≤ n ∧ i = .int .i64 m ∧ Hid (atFrom all m s.toList = R) ∧ wr = w) (fun i _ => n - (intOf i).toNat)
 case atStart => exact ⟨0, Nat.zero_le _, rfl, hRH.out, rfl⟩
 case round =>
  obtain ⟨m, hm, rfl, hz, rfl⟩ := hrel
  by_cases hlt : m < n
  ·obtain ⟨b, off, rfl, hcell⟩ := hcH.out m (by have := hnH.out; omega)
   have hlt' : (m : Int) < (n : Int) := by omega
   have hltx : m < all.length := by have := hnH.out; omega
   have hstep := atFrom_step hltx s.toList
   rw [hz.out] at hstep
   obtain ⟨y, hy⟩ : ∃ y, y = all[m].name := ⟨_, rfl⟩
   rw [← hy] at hcell hstep
   have hst : Hid (R = if y.toList = s.toList then (m : Int) else atFrom all (m + 1) s.toList) := hstep
   clear hz hy hstep
   cases he : (y.toList == s.toList) with
   | true =>
    have hR : Hid (R = (m : Int)) := by
     have := hst.out
     rw [if_pos (by simpa using he)] at this
     exact this
    clear hst
    go_wp2
    go_ret
    exact ⟨by rw [hR.out]; rfl, rfl⟩
   | false =>
    have hR : Hid (atFrom all (m + 1) s.toList = R) := by
     have := hst.out
     rw [if_neg (by simpa using he)] at this
     exact this.symm
    clear hst
    go_wp2
    go_roundw
    case rel => exact ⟨m + 1, by omega, by go_num, hR.out, trivial⟩
    case measure => simp [intOf]; omega
  ·have hend := hz.out
   rw [atFrom_end (by have := hnH.out; omega)] at hend
   subst hend
   go_wp2
   go_ret
   exact ⟨rfl, rfl⟩
def strsV (xs : List ByteArray) : List Value := xs.map Value.string
theorem strsV_append (a b : List ByteArray) : strsV (a ++ b) = strsV a ++ strsV b := by simp [strsV]
theorem strsV_one (xs : List ByteArray) : ∀ u ∈ strsV xs, u.oneCell' = true := by
 intro u hu
 obtain ⟨s, _, rfl⟩ := List.mem_map.1 hu
 rfl
def StrO (B : Nat) (w : World) (v : Value) (xs : List ByteArray) : Prop := w.ownsRow B 9 1 v xs.length (strsV xs)
theorem StrO.cells {B : Nat} {w : World} {a : Option Addr} {n c : Nat} {xs : List ByteArray} (h : StrO B w (.slice a n c) xs) : n = xs.length ∧ ∀ k (hk : k < xs.length), ∃ b off, a = some ⟨b, off, none⟩ ∧ w.cell? ⟨b, off + k, none⟩ = some (.string xs[k]) := by
 obtain ⟨a', c', e⟩ := own_shape h
 injection e with e1 e2 e3
 subst e1 e2 e3
 refine ⟨rfl, fun k hk => ?_⟩
 obtain ⟨hl, h'⟩ := h
 rcases h' with ⟨e, h0⟩ | ⟨g, cap, cur, e, hb, hg, h1, h2, h3, h4⟩
 ·omega
 ·injection e with e1 e2 e3
  subst e1
  refine ⟨g, 0, rfl, ?_⟩
  have : cur[k]? = some (.string xs[k]) := by
   have h5 : (strsV xs)[k]? = some (.string xs[k]) := by simp [strsV, hk]
   rw [← h4, List.getElem?_take_of_lt (by omega)] at h5
   simpa using h5
  simp only [World.cell?, hg, Nat.zero_add]
  exact this
end Go.Proofs.YtjjccimeikkogaaGreatDoor
