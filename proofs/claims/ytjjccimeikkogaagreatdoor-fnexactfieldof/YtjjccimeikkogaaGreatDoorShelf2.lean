import Derived.Test.YtjjccimeikkogaaGreatDoorSplit
import Derived.ChangeAgain
namespace Go.Proofs
open Go.Shelf
def Tryz.lays138_ren : Go.Shelf.Ren := ⟨fun | 138 => 210 | 195 => 232 | 218 => 233 | 143 => 234 | 219 => 246 | 217 => 241 | 225 => 221 | 224 => 220 | 267 => 260 | 266 => 258 | 314 => 269 | n => n, fun | 9 => 9 | 3 => 3 | 4 => 4 | 5 => 5 | 0 => 0 | 46 => 224 | 146 => 265 | 51 => 264 | n => n, fun | 1 => 3 | n => n⟩
theorem Tryz.lays138 : Go.Proofs.Lays.n138 Tryz.prog Tryz.lays138_ren := {
 mixed := by kernel_rfl
 f138 := Tryz.func210.trans (congrArg some (by kernel_rfl))
 f143 := Tryz.func234.trans (congrArg some (by kernel_rfl))
 f195 := Tryz.func232.trans (congrArg some (by kernel_rfl))
 f217 := Tryz.func241.trans (congrArg some (by kernel_rfl))
 f218 := Tryz.func233.trans (congrArg some (by kernel_rfl))
 f219 := Tryz.func246.trans (congrArg some (by kernel_rfl))
 f224 := Tryz.func220.trans (congrArg some (by kernel_rfl))
 f225 := Tryz.func221.trans (congrArg some (by kernel_rfl))
 f266 := Tryz.func258.trans (congrArg some (by kernel_rfl))
 f267 := Tryz.func260.trans (congrArg some (by kernel_rfl))
 f314 := Tryz.func269.trans (congrArg some (by kernel_rfl))
 t0 := Tryz.underlying0
 a0 := Tryz.isAgg0
 z0 := Tryz.sizeOf0
 v0 := Tryz.zeroValue0
 t3 := Tryz.underlying3
 a3 := Tryz.isAgg3
 z3 := Tryz.sizeOf3
 v3 := Tryz.zeroValue3
 t4 := Tryz.underlying4
 a4 := Tryz.isAgg4
 z4 := Tryz.sizeOf4
 v4 := Tryz.zeroValue4
 t5 := Tryz.underlying5
 a5 := Tryz.isAgg5
 z5 := Tryz.sizeOf5
 v5 := Tryz.zeroValue5
 t9 := Tryz.underlying9
 a9 := Tryz.isAgg9
 z9 := Tryz.sizeOf9
 v9 := Tryz.zeroValue9
 t46 := Tryz.underlying224
 a46 := Tryz.isAgg224
 z46 := Tryz.sizeOf224
 v46 := Tryz.zeroValue224
 t51 := Tryz.underlying264
 a51 := Tryz.isAgg264
 z51 := Tryz.sizeOf264
 v51 := Tryz.zeroValue264
 t146 := Tryz.underlying265
 a146 := Tryz.isAgg265
 z146 := Tryz.sizeOf265
 v146 := Tryz.zeroValue265
 g1 := by kernel_rfl }
open Go.RowKit Go.Lib in
theorem Tryz.strings_Count_one (s : ByteArray) (c : UInt8) (w : World) :
  Calls Tryz.prog 210 #[.string s, .string ⟨#[c]⟩] w fun e w' => e = .returned (.int .i64 (Lib.countByte s.data.toList c)) ∧ w' = w := Any.strings_Count_one Tryz.lays138 s c w
def Tryz.laysM145_ren : Go.Shelf.Ren := ⟨fun | 145 => 209 | 220 => 231 | 219 => 246 | 217 => 241 | 225 => 221 | 224 => 220 | 267 => 260 | 266 => 258 | 314 => 269 | n => n, fun | 9 => 9 | 4 => 4 | 59 => 218 | 3 => 3 | 5 => 5 | 46 => 224 | 146 => 265 | 51 => 264 | n => n, fun | 1 => 3 | n => n⟩
theorem Tryz.laysM145 : Go.Proofs.LaysM.n145 Tryz.prog Tryz.laysM145_ren := {
 mixed := by kernel_rfl
 f145 := Tryz.func209.trans (congrArg some (by kernel_rfl))
 f217 := Tryz.func241.trans (congrArg some (by kernel_rfl))
 f219 := Tryz.func246.trans (congrArg some (by kernel_rfl))
 f220 := Tryz.func231.trans (congrArg some (by kernel_rfl))
 f224 := Tryz.func220.trans (congrArg some (by kernel_rfl))
 f225 := Tryz.func221.trans (congrArg some (by kernel_rfl))
 f266 := Tryz.func258.trans (congrArg some (by kernel_rfl))
 f267 := Tryz.func260.trans (congrArg some (by kernel_rfl))
 f314 := Tryz.func269.trans (congrArg some (by kernel_rfl))
 t3 := Tryz.underlying3
 a3 := Tryz.isAgg3
 z3 := Tryz.sizeOf3
 v3 := Tryz.zeroValue3
 t4 := Tryz.underlying4
 a4 := Tryz.isAgg4
 z4 := Tryz.sizeOf4
 v4 := Tryz.zeroValue4
 t5 := Tryz.underlying5
 a5 := Tryz.isAgg5
 z5 := Tryz.sizeOf5
 v5 := Tryz.zeroValue5
 t9 := Tryz.underlying9
 a9 := Tryz.isAgg9
 z9 := Tryz.sizeOf9
 v9 := Tryz.zeroValue9
 t46 := Tryz.underlying224
 a46 := Tryz.isAgg224
 z46 := Tryz.sizeOf224
 v46 := Tryz.zeroValue224
 t51 := Tryz.underlying264
 a51 := Tryz.isAgg264
 z51 := Tryz.sizeOf264
 v51 := Tryz.zeroValue264
 t59 := Tryz.underlying218
 a59 := Tryz.isAgg218
 z59 := Tryz.sizeOf218
 v59 := Tryz.zeroValue218
 t146 := Tryz.underlying265
 a146 := Tryz.isAgg265
 z146 := Tryz.sizeOf265
 v146 := Tryz.zeroValue265
 g1 := by kernel_rfl
 i3 := by kernel_rfl
 i4 := by kernel_rfl
 i5 := by kernel_rfl
 i9 := by kernel_rfl
 i46 := by kernel_rfl
 i51 := by kernel_rfl
 i59 := by kernel_rfl
 i146 := by kernel_rfl
 m1 := by kernel_rfl
 s1_3 := fun w h => Go.Proofs.cell_of_shapedOpen_int (zero := #[.int .i64 0]) (t := 3) h (of_decide_eq_true (by kernel_rfl)) (by kernel_rfl) rfl (by kernel_rfl) (by kernel_rfl) Tryz.underlying3 }
open Go.RowKit Go.Lib in
theorem Tryz.strings_Cut_shaped (s sep : ByteArray) (w : World) (h : w.ShapedOpen Tryz.prog) (hs : s.size < 4294967281) :
  Calls Tryz.prog 209 #[.string s, .string sep] w fun e w' => e = .returned (.tuple #[.string ⟨(Lib.cut s.data.toList sep.data.toList).1.toArray⟩, .string ⟨(Lib.cut s.data.toList sep.data.toList).2.1.toArray⟩, .bool (Lib.cut s.data.toList sep.data.toList).2.2]) ∧ ∃ n, w' = w.drewN n := Any.strings_Cut_shaped Tryz.laysM145 s sep w h hs
def Tryz.laysM146_ren : Go.Shelf.Ren := ⟨fun | 146 => 211 | 221 => 235 | 268 => 247 | 138 => 210 | 143 => 234 | 195 => 232 | 197 => 187 | 218 => 233 | 219 => 246 | 260 => 199 | 217 => 241 | 225 => 221 | 224 => 220 | 267 => 260 | 266 => 258 | 314 => 269 | n => n, fun | 9 => 9 | 31 => 24 | 3 => 3 | 4 => 4 | 0 => 0 | 105 => 200 | 21 => 21 | 5 => 5 | 46 => 224 | 119 => 223 | 139 => 227 | 138 => 226 | 146 => 265 | 51 => 264 | n => n, fun | 1 => 3 | 3 => 1 | 4 => 2 | n => n⟩
theorem Tryz.laysM146 : Go.Proofs.LaysM.n146 Tryz.prog Tryz.laysM146_ren := {
 mixed := by kernel_rfl
 f138 := Tryz.func210.trans (congrArg some (by kernel_rfl))
 f143 := Tryz.func234.trans (congrArg some (by kernel_rfl))
 f146 := Tryz.func211.trans (congrArg some (by kernel_rfl))
 f195 := Tryz.func232.trans (congrArg some (by kernel_rfl))
 f197 := Tryz.func187.trans (congrArg some (by kernel_rfl))
 f217 := Tryz.func241.trans (congrArg some (by kernel_rfl))
 f218 := Tryz.func233.trans (congrArg some (by kernel_rfl))
 f219 := Tryz.func246.trans (congrArg some (by kernel_rfl))
 f221 := Tryz.func235.trans (congrArg some (by kernel_rfl))
 f224 := Tryz.func220.trans (congrArg some (by kernel_rfl))
 f225 := Tryz.func221.trans (congrArg some (by kernel_rfl))
 f260 := Tryz.func199.trans (congrArg some (by kernel_rfl))
 f266 := Tryz.func258.trans (congrArg some (by kernel_rfl))
 f267 := Tryz.func260.trans (congrArg some (by kernel_rfl))
 f268 := Tryz.func247.trans (congrArg some (by kernel_rfl))
 f314 := Tryz.func269.trans (congrArg some (by kernel_rfl))
 t0 := Tryz.underlying0
 a0 := Tryz.isAgg0
 z0 := Tryz.sizeOf0
 v0 := Tryz.zeroValue0
 t3 := Tryz.underlying3
 a3 := Tryz.isAgg3
 z3 := Tryz.sizeOf3
 v3 := Tryz.zeroValue3
 t4 := Tryz.underlying4
 a4 := Tryz.isAgg4
 z4 := Tryz.sizeOf4
 v4 := Tryz.zeroValue4
 t5 := Tryz.underlying5
 a5 := Tryz.isAgg5
 z5 := Tryz.sizeOf5
 v5 := Tryz.zeroValue5
 t9 := Tryz.underlying9
 a9 := Tryz.isAgg9
 z9 := Tryz.sizeOf9
 v9 := Tryz.zeroValue9
 t21 := Tryz.underlying21
 a21 := Tryz.isAgg21
 z21 := Tryz.sizeOf21
 v21 := Tryz.zeroValue21
 t31 := Tryz.underlying24
 a31 := Tryz.isAgg24
 z31 := Tryz.sizeOf24
 v31 := Tryz.zeroValue24
 t46 := Tryz.underlying224
 a46 := Tryz.isAgg224
 z46 := Tryz.sizeOf224
 v46 := Tryz.zeroValue224
 t51 := Tryz.underlying264
 a51 := Tryz.isAgg264
 z51 := Tryz.sizeOf264
 v51 := Tryz.zeroValue264
 t105 := Tryz.underlying200
 a105 := Tryz.isAgg200
 z105 := Tryz.sizeOf200
 v105 := Tryz.zeroValue200
 t119 := Tryz.underlying223
 a119 := Tryz.isAgg223
 z119 := Tryz.sizeOf223
 t138 := Tryz.underlying226
 a138 := Tryz.isAgg226
 z138 := Tryz.sizeOf226
 v138 := Tryz.zeroValue226
 t139 := Tryz.underlying227
 a139 := Tryz.isAgg227
 z139 := Tryz.sizeOf227
 v139 := Tryz.zeroValue227
 t146 := Tryz.underlying265
 a146 := Tryz.isAgg265
 z146 := Tryz.sizeOf265
 v146 := Tryz.zeroValue265
 g1 := by kernel_rfl
 g3 := by kernel_rfl
 g4 := by kernel_rfl
 i0 := by kernel_rfl
 i3 := by kernel_rfl
 i4 := by kernel_rfl
 i5 := by kernel_rfl
 i9 := by kernel_rfl
 i21 := by kernel_rfl
 i31 := by kernel_rfl
 i46 := by kernel_rfl
 i51 := by kernel_rfl
 i105 := by kernel_rfl
 i138 := by kernel_rfl
 i139 := by kernel_rfl
 i146 := by kernel_rfl
 m1 := by kernel_rfl
 s1_3 := fun w h => Go.Proofs.cell_of_shapedOpen_int (zero := #[.int .i64 0]) (t := 3) h (of_decide_eq_true (by kernel_rfl)) (by kernel_rfl) rfl (by kernel_rfl) (by kernel_rfl) Tryz.underlying3
 m3 := by kernel_rfl
 m4 := by kernel_rfl }
open Go.RowKit Go.Lib in
theorem Tryz.strings_Split_shaped (s sep : ByteArray) (w : World) (h : w.ShapedOpen Tryz.prog) (hs : s.size < 4294967281) (h1 : 1 ≤ sep.size) :
  Calls Tryz.prog 211 #[.string s, .string sep] w fun e w' =>
   e = .returned (.slice (some ⟨w.heap.size, 0, none⟩) (Lib.countB s sep + 1) (Lib.countB s sep + 1)) ∧ w' = w.alloc (.cells ((Lib.splitB sep 0 (Lib.countB s sep) s).map Value.string).toArray 9) := Any.strings_Split_shaped Tryz.laysM146 s sep w h hs h1
end Go.Proofs
/- impl.splitSig: what it answers at any text of at most 2^20 bytes, in a world that is shaped as the program's. -/
namespace Go.Proofs.YtjjccimeikkogaaGreatDoor
set_option linter.unusedVariables false
open Go.ChangeShapes Go.WideShapes Go.ChangeAt Go.RowKit
theorem shaped_below {w w' : World} (h : w.ShapedOpen Tryz.prog) (hb : Below w.heap.size w w') : w'.ShapedOpen Tryz.prog :=
 h.keptBut (hb.frame (fun _ => False)) (fun _ f => f.elim)
theorem splitL_count : ∀ l : List UInt8, (splitL l).length = l.count 44 + 1
 | [] => rfl
 | b :: t => by
  have ih := splitL_count t
  simp only [splitL, List.count_cons]
  by_cases hb : b = 44
  ·simp [hb, ih]
  ·simp only [hb, if_false]
   have : (b == 44) = false := by simpa using hb
   simp only [this]
   split
   ·rename_i h; exact absurd h (splitL_ne t)
   ·rename_i h; rw [h] at ih; simp at ih ⊢; exact ih
theorem splitK_all : ∀ (n : Nat) (l : List UInt8), l.length ≤ n → Lib.splitK [44] 0 (Lib.count l [44]) l = splitL l ∧ Lib.count l [44] = l.count 44 := by
 intro n
 induction n with
 | zero =>
  intro l h
  obtain rfl : l = [] := List.eq_nil_of_length_eq_zero (by omega)
  exact ⟨rfl, rfl⟩
 | succ n ih =>
  intro l h
  rcases index_byte 44 l with ⟨h1, h2⟩ | ⟨p, t, h1, h2, h3⟩
  ·rw [Lib.count_miss h1, splitL_end l h2]
   refine ⟨rfl, (List.count_eq_zero.2 fun hm => h2 44 hm rfl).symm⟩
  ·have hc := Lib.count_hit (s := l) (sub := [44]) (i := p.length) (by simp) h3
   have hd : l.drop (p.length + ([44] : List UInt8).length) = t := by rw [h1]; simp
   rw [hd] at hc
   obtain ⟨e1, e2⟩ := ih t (by rw [h1] at h; simp at h; first | done | omega)
   have hcp : p.count 44 = 0 := List.count_eq_zero.2 fun hm => h2 44 hm rfl
   refine ⟨?_, ?_⟩
   ·rw [hc, Nat.add_comm, Lib.splitK, h3, if_neg (by simp)]
    have ht : l.take ((p.length : Int).toNat + 0) = p := by rw [h1]; simp
    have hd2 : l.drop ((p.length : Int).toNat + ([44] : List UInt8).length) = t := by rw [h1]; simp
    rw [ht, hd2, e1, h1, splitL_step p t h2]
   ·rw [hc, e2, h1, List.count_append, hcp, List.count_cons]; simp [Nat.add_comm]
theorem libSplit (P : ByteArray) : (Lib.splitB ⟨#[44]⟩ 0 (Lib.countB P ⟨#[44]⟩) P).map Value.string = rowS (splitL P.data.toList) ∧ Lib.countB P ⟨#[44]⟩ + 1 = (splitL P.data.toList).length := by
 obtain ⟨h1, h2⟩ := splitK_all _ P.data.toList (Nat.le_refl _)
 refine ⟨?_, by rw [splitL_count]; exact congrArg (· + 1) h2⟩
 have h3 := Lib.splitB_data ⟨#[44]⟩ 0 (Lib.countB P ⟨#[44]⟩) P
 have h4 : (Lib.splitB ⟨#[44]⟩ 0 (Lib.countB P ⟨#[44]⟩) P).map (·.data.toList) = splitL P.data.toList := h3.trans h1
 rw [← h4, rowS, List.map_map]
 rfl
theorem splitRow (P : ByteArray) (base : Nat) (w : World) (hb : base ≤ w.heap.size) (hP : P.size ≤ 1048576) :
  RowAt (w.alloc (.cells ((Lib.splitB ⟨#[44]⟩ 0 (Lib.countB P ⟨#[44]⟩) P).map Value.string).toArray 9)) base (splitL P.data.toList) (.slice (some ⟨w.heap.size, 0, none⟩) (splitL P.data.toList).length (splitL P.data.toList).length) w.heap.size (splitL P.data.toList).length := by
 have hl := splitL_length P.data.toList
 rw [toList_size] at hl
 have ho : (w.alloc (.cells (rowS (splitL P.data.toList)).toArray 9)).ownsRow base 9 1 (.slice (some ⟨w.heap.size, 0, none⟩) (splitL P.data.toList).length (splitL P.data.toList).length) (splitL P.data.toList).length (rowS (splitL P.data.toList)) :=
  ⟨by simp [rowS], .inr ⟨w.heap.size, _, (rowS (splitL P.data.toList)).toArray, rfl, hb, heap_alloc_last w _, Nat.le_refl _, by unfold maxLen; omega, by simp [rowS], by rw [Nat.mul_one]; exact List.take_of_length_le (by rw [rowS_length]; exact Nat.le_refl _)⟩⟩
 rw [(libSplit P).1]
 obtain ⟨g, cap, h⟩ := row_open ho (by simp)
 have e := h.eq
 simp only [Value.slice.injEq, Option.some.injEq, Addr.mk.injEq, and_true, true_and] at e
 obtain ⟨rfl, rfl⟩ := e
 exact h
theorem SigPost.nil {l : List UInt8} {w W : World} (h : sigOk l = false) (hb : Below w.heap.size w W) :
  SigPost l w (.returned (.tuple #[.slice none 0 0, .string ⟨#[]⟩, .bool false])) W := by
 refine ⟨_, by rw [h, sigRes_no h]; rfl, ?_, hb⟩
 rw [sigPars_no h]
 exact ⟨rfl, .inl ⟨rfl, rfl⟩⟩
theorem SigPost.bare {l : List UInt8} {R : ByteArray} {w W : World} (hl : l = 40 :: ([] ++ 41 :: R.data.toList)) (ho : okOf [] R.data.toList = true) (hb : Below w.heap.size w W) :
  SigPost l w (.returned (.tuple #[.slice none 0 0, .string R, .bool true])) W := by
 subst hl
 refine ⟨_, by rw [sigRes_at [] _ (by simp) ho, sig_at [] _ (by simp), ho]; rfl, ?_, hb⟩
 rw [sigPars_at [] _ (by simp) ho]
 exact ⟨rfl, .inl ⟨rfl, rfl⟩⟩
theorem SigPost.full {l I : List UInt8} {R : ByteArray} {ps : List (List UInt8)} {w w1 : World} {v : Value} {g cap : Nat} (hl : l = 40 :: (I ++ 41 :: R.data.toList)) (hp : ∀ b ∈ I, b ≠ 41) (ho : okOf I R.data.toList = true)
  (hps : ps = parsOf I) (hrow : RowAt w1 w.heap.size ps v g cap) (hb : Below w.heap.size w w1) : SigPost l w (.returned (.tuple #[v, .string R, .bool true])) w1 := by
 subst hl; subst hps
 refine ⟨v, ?_, ?_, hb⟩
 ·rw [sigRes_at I _ hp ho, sig_at I _ hp, ho]; rfl
 ·rw [sigPars_at I _ hp ho]; exact hrow.own
theorem prefix40_yes (t : List UInt8) : Lib.hasPrefix (40 :: t) [40] = true := by simp [Lib.hasPrefix]
theorem prefix40_no {l : List UInt8} (h : ∀ r, l ≠ 40 :: r) : Lib.hasPrefix l [40] = false := by
 cases l with
 | nil => rfl
 | cons b r =>
  have : b ≠ 40 := fun e => h r (by rw [e])
  simp [Lib.hasPrefix, List.isPrefixOf, Ne.symm this]
theorem below_drewN {B : Nat} {a w : World} (h : Below B a w) (n : Nat) : Below B a (w.drewN n) := ⟨h.os, h.tape, h.output, h.size, h.block⟩
set_option maxRecDepth 1000000 in
set_option maxHeartbeats 4000000 in
theorem implSig_calls (s : ByteArray) (w : World) (hs : s.size ≤ 1048576) (hsh : w.ShapedOpen Tryz.prog) : Calls Tryz.prog 192 #[.string s] w (SigPost s.data.toList w) := by
 have hlen := toList_size s
 have hshH : Hid (w.ShapedOpen Tryz.prog) := hsh
 clear hsh
 by_cases hhead : ∃ t, s.data.toList = 40 :: t
 ·obtain ⟨t, ht⟩ := hhead
  have htl : t.length ≤ 1048576 := by rw [ht] at hlen; simp at hlen; omega
  obtain ⟨T, hT⟩ : ∃ T, T = mkS t := ⟨_, rfl⟩
  have hTs : T.size < 4294967281 := by rw [hT, ← toList_size, mkS_list]; omega
  have openH : Hid (∀ w, Calls Tryz.prog 94 #[.string s, .string ⟨#[40]⟩] w fun e w' => e = .returned (.tuple #[.string T, .bool true]) ∧ w' = w) := fun w => by
   refine (Tryz.strings_CutPrefix s ⟨#[40]⟩ w).mono ?_
   rintro e w' ⟨rfl, rfl⟩
   refine ⟨?_, rfl⟩
   rw [ht, hT, Lib.trimPrefix, prefix40_yes]
   rfl
  rcases index_byte 41 t with ⟨_, h2⟩ | ⟨p, r, h1, h2, _⟩
  ·have hno : sigOk s.data.toList = false := by
    rw [ht]; simp only [sigOk]; rw [cut_none 41 t h2]; rfl
   have cutH : Hid (Calls Tryz.prog 209 #[.string T, .string ⟨#[41]⟩] w fun e w' => ∃ A, e = .returned (.tuple #[.string A, .string ⟨#[]⟩, .bool false]) ∧ Below w.heap.size w w') := by
    refine (Tryz.strings_Cut_shaped T ⟨#[41]⟩ w hshH.out hTs).mono ?_
    rintro e w' ⟨rfl, n, rfl⟩
    refine ⟨mkS t, ?_, below_drewN (Below.refl _ _) n⟩
    have : Lib.cut T.data.toList [41] = (t, [], false) := by rw [hT, mkS_list]; exact cut_none 41 t h2
    show Ending.returned (.tuple #[.string ⟨(Lib.cut T.data.toList [41]).1.toArray⟩, .string ⟨(Lib.cut T.data.toList [41]).2.1.toArray⟩, .bool (Lib.cut T.data.toList [41]).2.2]) = _
    rw [this]; rfl
   clear h2 hT ht
   go_enter Tryz.func192, Tryz.ntmps192
   go_wp2_with (first
    | (go_at_call 94; refine (openH.out _).mono ?_; rintro e w ⟨rfl, he⟩; subst he)
    | (go_at_call 209; refine cutH.out.mono ?_; rintro e w1 ⟨A, rfl, hb1⟩))
   go_ret3
   exact SigPost.nil hno hb1
  ·obtain ⟨P, hP⟩ : ∃ P, P = mkS p := ⟨_, rfl⟩
   obtain ⟨R, hR⟩ : ∃ R, R = mkS r := ⟨_, rfl⟩
   have hplen : p.length + r.length + 1 = t.length := by rw [h1]; simp; omega
   have hPl : P.data.toList = p := by rw [hP]; rfl
   have hRl : R.data.toList = r := by rw [hR]; rfl
   have hPs : P.size ≤ 1048576 := by rw [← toList_size, hPl]; omega
   have hRs : R.size ≤ 9223372036854775807 := by rw [← toList_size, hRl]; omega
   have hlH : Hid (s.data.toList = 40 :: (P.data.toList ++ 41 :: R.data.toList)) := by show _ = _; rw [hPl, hRl, ht, h1]
   have hpH : Hid (∀ b ∈ P.data.toList, b ≠ 41) := by rw [hPl]; exact h2
   have cutH : Hid (Calls Tryz.prog 209 #[.string T, .string ⟨#[41]⟩] w fun e w' => e = .returned (.tuple #[.string P, .string R, .bool true]) ∧ Below w.heap.size w w') := by
    refine (Tryz.strings_Cut_shaped T ⟨#[41]⟩ w hshH.out hTs).mono ?_
    rintro e w' ⟨rfl, n, rfl⟩
    refine ⟨?_, below_drewN (Below.refl _ _) n⟩
    have : Lib.cut T.data.toList [41] = (p, r, true) := by rw [hT, mkS_list, h1]; exact cut_at 41 p r h2
    show Ending.returned (.tuple #[.string ⟨(Lib.cut T.data.toList [41]).1.toArray⟩, .string ⟨(Lib.cut T.data.toList [41]).2.1.toArray⟩, .bool (Lib.cut T.data.toList [41]).2.2]) = _
    rw [this, hP, hR]; rfl
   have typeH : Hid (∀ w, Calls Tryz.prog 179 #[.string R] w fun e w' => e = .returned (.bool (typeL R.data.toList)) ∧ Below w.heap.size w w') := fun w => implType_calls R w hRs
   clear hPl hRl hP hR h1 h2 ht hT hplen htl
   have arms : True := trivial
   clear arms
   by_cases hV : R.data.toList = [86] ∨ typeL R.data.toList = true
   ·-- the result is one
    have hgood : ((R.data.toList == [86]) || typeL R.data.toList) = true := by
     rcases hV with h | h <;> simp [h]
    by_cases hP0 : P.data.toList = []
    ·have e4 : (P.toList == []) = true := by rw [ByteArray.toList_eq, hP0]; rfl
     have hb0 : okOf [] R.data.toList = true := by unfold okOf; rw [hgood]; rfl
     have hl0 : s.data.toList = 40 :: ([] ++ 41 :: R.data.toList) := by rw [hlH.out, hP0]
     have hl0H : Hid (s.data.toList = 40 :: ([] ++ 41 :: R.data.toList)) := hl0
     clear hl0 hP0 hV
     cases hv : (R.toList == [86]) with
     | true =>
      go_enter Tryz.func192, Tryz.ntmps192
      go_wp2_with (first
       | (go_at_call 94; refine (openH.out _).mono ?_; rintro e w ⟨rfl, he⟩; subst he)
       | (go_at_call 209; refine cutH.out.mono ?_; rintro e w1 ⟨rfl, hb1⟩)
       | (go_at_call 179; refine (typeH.out _).mono ?_; rintro e w2 ⟨rfl, hb2⟩))
      go_ret3
      exact SigPost.bare hl0H.out hb0 hb1
     | false =>
      have ht : typeL R.data.toList = true := by rw [ByteArray.toList_eq] at hv; rw [hv] at hgood; simpa using hgood
      go_enter Tryz.func192, Tryz.ntmps192
      go_wp2_with (first
       | (go_at_call 94; refine (openH.out _).mono ?_; rintro e w ⟨rfl, he⟩; subst he)
       | (go_at_call 209; refine cutH.out.mono ?_; rintro e w1 ⟨rfl, hb1⟩)
       | (go_at_call 179; refine (typeH.out _).mono ?_; rintro e w2 ⟨rfl, hb2⟩))
      go_ret3
      exact SigPost.bare hl0H.out hb0 (hb1.trans (hb2.mono hb1.size))
    ·have e4 : (P.toList == []) = false := by rw [ByteArray.toList_eq]; simpa using hP0
     have hpars : parsOf P.data.toList = splitL P.data.toList := by unfold parsOf; rw [if_neg hP0]
     obtain ⟨hcells, hcount⟩ := libSplit P
     have hcnt := splitL_count P.data.toList
     have countH : Hid (∀ w, Calls Tryz.prog 210 #[.string P, .string ⟨#[44]⟩] w fun e w' => e = .returned (.int .i64 ((P.data.toList.count 44 : Nat) : Int)) ∧ w' = w) := fun w => Tryz.strings_Count_one P 44 w
     obtain ⟨ps, hps1⟩ : ∃ ps, ps = splitL P.data.toList := ⟨_, rfl⟩
     have hps : Hid (ps = parsOf P.data.toList) := by rw [hps1, hpars]; rfl
     have hplen : Hid (∀ p ∈ ps, p.length ≤ 1048576) := by
      rw [hps1]; intro p hp
      exact Nat.le_trans (splitL_mem _ p hp) (by rw [toList_size]; exact hPs)
     have hpsb : ps.length ≤ 1048577 := by
      have := splitL_length P.data.toList
      rw [toList_size] at this
      rw [hps1]; omega
     have splitH : Hid (∀ W : World, Below w.heap.size w W → Calls Tryz.prog 211 #[.string P, .string ⟨#[44]⟩] W fun e w' => ∃ g, e = .returned (.slice (some ⟨g, 0, none⟩) ps.length ps.length) ∧ RowAt w' w.heap.size ps (.slice (some ⟨g, 0, none⟩) ps.length ps.length) g ps.length ∧ Below w.heap.size w w') := by
      intro W hW
      refine (Tryz.strings_Split_shaped P ⟨#[44]⟩ W (shaped_below hshH.out hW) (by omega) (by decide)).mono ?_
      rintro e w' ⟨rfl, rfl⟩
      refine ⟨W.heap.size, by rw [hcount, hps1], ?_, hW.alloc hW.size _⟩
      rw [hps1]
      exact splitRow P w.heap.size W hW.size hPs
     rw [← hps1] at hcnt
     clear hcells hcount hpars hP0 hps1
     have hres : Hid (ps.length ≤ 8 → okOf P.data.toList R.data.toList = ps.all typeL) := fun h => by
      unfold okOf; rw [hgood, ← hps.out]; simp [h]
     have hover : Hid (¬ ps.length ≤ 8 → sigOk s.data.toList = false) := fun h => by
      rw [hlH.out, sig_at _ _ hpH.out]; unfold okOf; rw [← hps.out]; simp [h]
     generalize P.data.toList.count 44 = c at *
     have hgoodH : Hid (((R.toList == [86]) || typeL R.data.toList) = true) := by show _ = _; rw [ByteArray.toList_eq]; exact hgood
     clear hgood hV
     by_cases h8 : (8 : Int) ≤ c
     ·have hno := hover.out (by omega)
      clear hcnt
      cases hv : (R.toList == [86]) with
      | true =>
       go_enter Tryz.func192, Tryz.ntmps192
       go_wp2_with (first
        | (go_at_call 94; refine (openH.out _).mono ?_; rintro e w ⟨rfl, he⟩; subst he)
        | (go_at_call 209; refine cutH.out.mono ?_; rintro e w1 ⟨rfl, hb1⟩)
        | (go_at_call 210; refine (countH.out _).mono ?_; rintro e w' ⟨rfl, he⟩; subst he))
       go_ret3
       exact SigPost.nil hno (by assumption)
      | false =>
       have ht : typeL R.data.toList = true := by have := hgoodH.out; rw [hv] at this; simpa using this
       go_enter Tryz.func192, Tryz.ntmps192
       go_wp2_with (first
        | (go_at_call 94; refine (openH.out _).mono ?_; rintro e w ⟨rfl, he⟩; subst he)
        | (go_at_call 209; refine cutH.out.mono ?_; rintro e w1 ⟨rfl, hb1⟩)
        | (go_at_call 179; refine (typeH.out _).mono ?_; rintro e w2 ⟨rfl, hb2⟩; have hb3 := hb1.trans (hb2.mono hb1.size); clear hb1 hb2)
        | (go_at_call 210; refine (countH.out _).mono ?_; rintro e w' ⟨rfl, he⟩; subst he))
       go_ret3
       exact SigPost.nil hno (by assumption)
     ·have h8n : ps.length ≤ 8 := by omega
      clear hcnt
      cases hv : (R.toList == [86]) with
      | true =>
       go_enter Tryz.func192, Tryz.ntmps192
       go_wp2_with (first
        | (go_at_call 94; refine (openH.out _).mono ?_; rintro e w ⟨rfl, he⟩; subst he)
        | (go_at_call 209; refine cutH.out.mono ?_; rintro e w1 ⟨rfl, hb3⟩)
        | (go_at_call 210; refine (countH.out _).mono ?_; rintro e w1 ⟨rfl, he⟩; subst he)
        | (go_at_call 211; refine (splitH.out _ hb3).mono ?_; rintro e w3 ⟨g, rfl, hrow, hb4⟩; clear hb3))
       go_loopw [48] (fun iv wr => ∃ i : Nat, iv = .int .i64 i ∧ i ≤ ps.length ∧ RowAt wr w.heap.size ps (.slice (some ⟨g, 0, none⟩) ps.length ps.length) g ps.length ∧ Below w.heap.size w wr ∧ Hid ((ps.take i).all typeL = true)) (fun iv _ => ps.length - (intOf iv).toNat)
       case atStart => exact ⟨0, rfl, Nat.zero_le _, hrow, hb4, rfl⟩
       case round =>
        obtain ⟨i, rfl, hi, hrw, hbw, hall⟩ := hrel
        by_cases hin : i < ps.length
        ·have hin1 : (i : Int) < ps.length := by omega
         have hin0 : (0 : Int) ≤ i := by omega
         have hc := hrw.cell i hin
         have hglt := hrw.lt
         have hpl := hplen.out ps[i] (List.getElem_mem hin)
         have hnext : Hid (typeL ps[i] = true → (ps.take (i + 1)).all typeL = true) := fun h => by
          rw [List.take_succ_eq_append_getElem hin, List.all_append, hall.out]; simp [h]
         have hbad : Hid (typeL ps[i] = false → sigOk s.data.toList = false) := fun h => by
          rw [hlH.out, sig_at _ _ hpH.out, hres.out h8n, List.all_eq_false]
          exact ⟨ps[i], List.getElem_mem hin, by simp [h]⟩
         obtain ⟨X, hX⟩ : ∃ X, mkS ps[i] = X := ⟨_, rfl⟩
         have hXt : Hid (typeL X.data.toList = typeL ps[i]) := by rw [← hX]; rfl
         have hXs : X.size ≤ 9223372036854775807 := by rw [← hX, ← toList_size, mkS_list]; omega
         rw [hX] at hc
         generalize typeL ps[i] = tb at *
         have hXc : Hid (∀ w, Calls Tryz.prog 179 #[.string X] w fun e w' => e = .returned (.bool tb) ∧ Below w.heap.size w w') := fun w => by rw [← hXt.out]; exact implType_calls X w hXs
         clear hX hXt hpl
         cases tb with
         | true =>
          go_wp2_with (first
           | (go_at_call 179; refine (hXc.out _).mono ?_; rintro e w5 ⟨rfl, hb5⟩))
          go_roundw
          case rel => exact ⟨i + 1, by simp, by omega, row_kept hrw hb5 hglt, hbw.trans (hb5.mono hbw.size), hnext.out (by trivial)⟩
          case measure => first | (simp [intOf]; done) | (simp [intOf]; omega)
         | false =>
          have hno := hbad.out rfl
          go_wp2_with (first
           | (go_at_call 179; refine (hXc.out _).mono ?_; rintro e w5 ⟨rfl, hb5⟩))
          go_ret3
          exact SigPost.nil hno (hbw.trans (hb5.mono hbw.size))
        ·have hin1 : ¬ (i : Int) < ps.length := by omega
         have hyes : okOf P.data.toList R.data.toList = true := by
          rw [hres.out h8n]
          have := hall.out
          rwa [show i = ps.length by omega, List.take_length] at this
         go_wp2
         go_ret3
         exact SigPost.full hlH.out hpH.out hyes hps.out hrw hbw
      | false =>
       have ht : typeL R.data.toList = true := by have := hgoodH.out; rw [hv] at this; simpa using this
       go_enter Tryz.func192, Tryz.ntmps192
       go_wp2_with (first
        | (go_at_call 94; refine (openH.out _).mono ?_; rintro e w ⟨rfl, he⟩; subst he)
        | (go_at_call 209; refine cutH.out.mono ?_; rintro e w1 ⟨rfl, hb1⟩)
        | (go_at_call 179; refine (typeH.out _).mono ?_; rintro e w2 ⟨rfl, hb2⟩; have hb3 := hb1.trans (hb2.mono hb1.size); clear hb1 hb2)
        | (go_at_call 210; refine (countH.out _).mono ?_; rintro e w2 ⟨rfl, he⟩; subst he)
        | (go_at_call 211; refine (splitH.out _ hb3).mono ?_; rintro e w3 ⟨g, rfl, hrow, hb4⟩; clear hb3))
       go_loopw [48] (fun iv wr => ∃ i : Nat, iv = .int .i64 i ∧ i ≤ ps.length ∧ RowAt wr w.heap.size ps (.slice (some ⟨g, 0, none⟩) ps.length ps.length) g ps.length ∧ Below w.heap.size w wr ∧ Hid ((ps.take i).all typeL = true)) (fun iv _ => ps.length - (intOf iv).toNat)
       case atStart => exact ⟨0, rfl, Nat.zero_le _, hrow, hb4, rfl⟩
       case round =>
        obtain ⟨i, rfl, hi, hrw, hbw, hall⟩ := hrel
        by_cases hin : i < ps.length
        ·have hin1 : (i : Int) < ps.length := by omega
         have hin0 : (0 : Int) ≤ i := by omega
         have hc := hrw.cell i hin
         have hglt := hrw.lt
         have hpl := hplen.out ps[i] (List.getElem_mem hin)
         have hnext : Hid (typeL ps[i] = true → (ps.take (i + 1)).all typeL = true) := fun h => by
          rw [List.take_succ_eq_append_getElem hin, List.all_append, hall.out]; simp [h]
         have hbad : Hid (typeL ps[i] = false → sigOk s.data.toList = false) := fun h => by
          rw [hlH.out, sig_at _ _ hpH.out, hres.out h8n, List.all_eq_false]
          exact ⟨ps[i], List.getElem_mem hin, by simp [h]⟩
         obtain ⟨X, hX⟩ : ∃ X, mkS ps[i] = X := ⟨_, rfl⟩
         have hXt : Hid (typeL X.data.toList = typeL ps[i]) := by rw [← hX]; rfl
         have hXs : X.size ≤ 9223372036854775807 := by rw [← hX, ← toList_size, mkS_list]; omega
         rw [hX] at hc
         generalize typeL ps[i] = tb at *
         have hXc : Hid (∀ w, Calls Tryz.prog 179 #[.string X] w fun e w' => e = .returned (.bool tb) ∧ Below w.heap.size w w') := fun w => by rw [← hXt.out]; exact implType_calls X w hXs
         clear hX hXt hpl
         cases tb with
         | true =>
          go_wp2_with (first
           | (go_at_call 179; refine (hXc.out _).mono ?_; rintro e w5 ⟨rfl, hb5⟩))
          go_roundw
          case rel => exact ⟨i + 1, by simp, by omega, row_kept hrw hb5 hglt, hbw.trans (hb5.mono hbw.size), hnext.out (by trivial)⟩
          case measure => first | (simp [intOf]; done) | (simp [intOf]; omega)
         | false =>
          have hno := hbad.out rfl
          go_wp2_with (first
           | (go_at_call 179; refine (hXc.out _).mono ?_; rintro e w5 ⟨rfl, hb5⟩))
          go_ret3
          exact SigPost.nil hno (hbw.trans (hb5.mono hbw.size))
        ·have hin1 : ¬ (i : Int) < ps.length := by omega
         have hyes : okOf P.data.toList R.data.toList = true := by
          rw [hres.out h8n]
          have := hall.out
          rwa [show i = ps.length by omega, List.take_length] at this
         go_wp2
         go_ret3
         exact SigPost.full hlH.out hpH.out hyes hps.out hrw hbw
   ·-- the result is none
    have h1 : R.data.toList ≠ [86] := fun h => hV (.inl h)
    have hv : (R.toList == [86]) = false := by rw [ByteArray.toList_eq]; simpa using h1
    have ht : typeL R.data.toList = false := by
     cases h : typeL R.data.toList with
     | false => rfl
     | true => exact absurd (.inr h) hV
    have hno : sigOk s.data.toList = false := by
     rw [hlH.out, sig_at _ _ hpH.out]; unfold okOf
     rw [ByteArray.toList_eq] at hv
     rw [hv, ht]; simp
    clear hV h1
    go_enter Tryz.func192, Tryz.ntmps192
    go_wp2_with (first
     | (go_at_call 94; refine (openH.out _).mono ?_; rintro e w ⟨rfl, he⟩; subst he)
     | (go_at_call 209; refine cutH.out.mono ?_; rintro e w1 ⟨rfl, hb1⟩)
     | (go_at_call 179; refine (typeH.out _).mono ?_; rintro e w2 ⟨rfl, hb2⟩))
    go_ret3
    exact SigPost.nil hno (hb1.trans (hb2.mono hb1.size))
 ·have hno : sigOk s.data.toList = false := sig_head (fun t h => hhead ⟨t, h⟩)
  have openH : Hid (∀ w, Calls Tryz.prog 94 #[.string s, .string ⟨#[40]⟩] w fun e w' => e = .returned (.tuple #[.string s, .bool false]) ∧ w' = w) := fun w => by
   refine (Tryz.strings_CutPrefix s ⟨#[40]⟩ w).mono ?_
   rintro e w' ⟨rfl, rfl⟩
   refine ⟨?_, rfl⟩
   rw [Lib.trimPrefix]
   rw [show Lib.hasPrefix s.data.toList (ByteArray.mk #[40]).data.toList = false from prefix40_no (fun t h => hhead ⟨t, h⟩)]
   rfl
  have cutH : Hid (Calls Tryz.prog 209 #[.string s, .string ⟨#[41]⟩] w fun e w' => ∃ A B b, e = .returned (.tuple #[.string A, .string B, .bool b]) ∧ Below w.heap.size w w') := by
   refine (Tryz.strings_Cut_shaped s ⟨#[41]⟩ w hshH.out (by omega)).mono ?_
   rintro e w' ⟨rfl, n, rfl⟩
   exact ⟨_, _, _, rfl, below_drewN (Below.refl _ _) n⟩
  clear hhead
  go_enter Tryz.func192, Tryz.ntmps192
  go_wp2_with (first
   | (go_at_call 94; refine (openH.out _).mono ?_; rintro e w ⟨rfl, he⟩; subst he)
   | (go_at_call 209; refine cutH.out.mono ?_; rintro e w1 ⟨A, B, b, rfl, hb1⟩))
  go_ret3
  exact SigPost.nil hno hb1
theorem specSigOk_calls (s : ByteArray) (w : World) (hs : s.size ≤ 1048576) : Calls Tryz.prog 173 #[.string s] w fun e w' => e = .returned (.bool (sigOk s.data.toList)) ∧ Below w.heap.size w w' := by
 have h : Hid (∀ w, Calls Tryz.prog 189 #[.string s] w (SigPost s.data.toList w)) := fun w => specSig_calls s w hs
 go_enter Tryz.func173, Tryz.ntmps173
 go_wp2_with (go_at_call 189; refine (h.out _).mono ?_; rintro e w1 ⟨v, rfl, hown, hb⟩)
 go_ret
 exact ⟨rfl, hb⟩
theorem implSigOk_calls (s : ByteArray) (w : World) (hs : s.size ≤ 1048576) (hsh : w.ShapedOpen Tryz.prog) : Calls Tryz.prog 180 #[.string s] w fun e w' => e = .returned (.bool (sigOk s.data.toList)) ∧ Below w.heap.size w w' := by
 have h : Hid (Calls Tryz.prog 192 #[.string s] w (SigPost s.data.toList w)) := implSig_calls s w hs hsh
 clear hsh
 go_enter Tryz.func180, Tryz.ntmps180
 go_wp2_with (go_at_call 192; refine h.out.mono ?_; rintro e w1 ⟨v, rfl, hown, hb⟩)
 go_ret
 exact ⟨rfl, hb⟩
end Go.Proofs.YtjjccimeikkogaaGreatDoor
