import Derived.Shelf.Strings.Trim
import Derived.Shelf.Small.Utf8
import Derived.Shelf.Small.Strs
import Derived.Shelf.Small.Wraps
import Derived.Shelf.Utf8.RuneCount
import Derived.Shelf.Strings.Search1
import Derived.Shelf.Strings.Search2
import Derived.Shelf.Strings.Search3
import Derived.Shelf.Strings.Cut
import Derived.Shelf.Strings.Count
import Derived.Shelf.LaysM
import Derived.Shelf.Strings.Shaped
import Derived.Shelf.Strings.Prefix
import Derived.Shelf.Strings.Split
import Derived.Shelf.Strings.SplitShaped
import Derived.Shelf.Unicode.Decode
import Derived.Shelf.Strings.Runes
import Derived.Shelf.Strings.RuneCount
import Derived.Shelf.Strings.AsciiSet
import Derived.Shelf.Strings.Explode
import Derived.Shelf.Unicode.DecodeSlow
import Derived.Shelf.Unicode.DecodeAny
import Derived.Test.YtjjccimeikkogaaGreatDoorProg
import Derived.Test.YtjjccimeikkogaaGreatDoorText
import Derived.WalkSpells
set_option maxRecDepth 1000000
set_option maxHeartbeats 4000000
namespace Go.Proofs
open Go.Shelf
def Tryz.lays161_ren : Go.Shelf.Ren := ⟨fun | 161 => 130 | 231 => 167 | 227 => 168 | 233 => 169 | 235 => 170 | 228 => 186 | 197 => 187 | 151 => 188 | 260 => 199 | 152 => 200 | 137 => 218 | 119 => 219 | 224 => 220 | 225 => 221 | 217 => 241 | 266 => 258 | n => n, fun | 9 => 9 | 4 => 4 | 3 => 3 | 5 => 5 | 117 => 191 | 116 => 190 | 0 => 0 | 124 => 194 | 105 => 200 | 21 => 21 | 119 => 223 | 46 => 224 | 139 => 227 | 138 => 226 | n => n, fun | 3 => 1 | 4 => 2 | n => n⟩
theorem Tryz.lays161 : Go.Proofs.Lays.n161 Tryz.prog Tryz.lays161_ren := {
 mixed := by kernel_rfl
 f119 := Tryz.func219.trans (congrArg some (by kernel_rfl))
 f137 := Tryz.func218.trans (congrArg some (by kernel_rfl))
 f151 := Tryz.func188.trans (congrArg some (by kernel_rfl))
 f152 := Tryz.func200.trans (congrArg some (by kernel_rfl))
 f161 := Tryz.func130.trans (congrArg some (by kernel_rfl))
 f197 := Tryz.func187.trans (congrArg some (by kernel_rfl))
 f217 := Tryz.func241.trans (congrArg some (by kernel_rfl))
 f224 := Tryz.func220.trans (congrArg some (by kernel_rfl))
 f225 := Tryz.func221.trans (congrArg some (by kernel_rfl))
 f227 := Tryz.func168.trans (congrArg some (by kernel_rfl))
 f228 := Tryz.func186.trans (congrArg some (by kernel_rfl))
 f231 := Tryz.func167.trans (congrArg some (by kernel_rfl))
 f233 := Tryz.func169.trans (congrArg some (by kernel_rfl))
 f235 := Tryz.func170.trans (congrArg some (by kernel_rfl))
 f260 := Tryz.func199.trans (congrArg some (by kernel_rfl))
 f266 := Tryz.func258.trans (congrArg some (by kernel_rfl))
 t0 := Tryz.underlying0
 a0 := Tryz.isAgg0
 z0 := Tryz.sizeOf0
 v0 := Tryz.zeroValue0
 t3 := Tryz.underlying3
 a3 := Tryz.isAgg3
 z3 := Tryz.sizeOf3
 v3 := Tryz.zeroValue3
 t4 := Tryz.underlying4
 a4 := Tryz.isAgg4
 z4 := Tryz.sizeOf4
 v4 := Tryz.zeroValue4
 t5 := Tryz.underlying5
 a5 := Tryz.isAgg5
 z5 := Tryz.sizeOf5
 v5 := Tryz.zeroValue5
 t9 := Tryz.underlying9
 a9 := Tryz.isAgg9
 z9 := Tryz.sizeOf9
 v9 := Tryz.zeroValue9
 t21 := Tryz.underlying21
 a21 := Tryz.isAgg21
 z21 := Tryz.sizeOf21
 v21 := Tryz.zeroValue21
 t46 := Tryz.underlying224
 a46 := Tryz.isAgg224
 z46 := Tryz.sizeOf224
 v46 := Tryz.zeroValue224
 t105 := Tryz.underlying200
 a105 := Tryz.isAgg200
 z105 := Tryz.sizeOf200
 v105 := Tryz.zeroValue200
 t116 := Tryz.underlying190
 a116 := Tryz.isAgg190
 z116 := Tryz.sizeOf190
 t117 := Tryz.underlying191
 a117 := Tryz.isAgg191
 z117 := Tryz.sizeOf191
 v117 := Tryz.zeroValue191
 t119 := Tryz.underlying223
 a119 := Tryz.isAgg223
 z119 := Tryz.sizeOf223
 t124 := Tryz.underlying194
 a124 := Tryz.isAgg194
 z124 := Tryz.sizeOf194
 v124 := Tryz.zeroValue194
 t138 := Tryz.underlying226
 a138 := Tryz.isAgg226
 z138 := Tryz.sizeOf226
 v138 := Tryz.zeroValue226
 t139 := Tryz.underlying227
 a139 := Tryz.isAgg227
 z139 := Tryz.sizeOf227
 v139 := Tryz.zeroValue227
 g3 := by kernel_rfl
 g4 := by kernel_rfl }
open Go.RowKit in
theorem Tryz.strings_TrimLeft_one (s : ByteArray) (c : UInt8) (hc : c.toNat < 128) (w : World) :
  Calls Tryz.prog 130 #[.string s, .string ⟨#[c]⟩] w fun e w' => e = .returned (.string ⟨(Lib.trimLeftB s.data.toList c).toArray⟩) ∧ w' = w := Any.strings_TrimLeft_one Tryz.lays161 s c hc w
def Tryz.lays103_ren : Go.Shelf.Ren := ⟨fun | 103 => 94 | 210 => 132 | 206 => 171 | n => n, fun | 9 => 9 | 4 => 4 | 24 => 131 | 3 => 3 | n => n, fun | n => n⟩
theorem Tryz.lays103 : Go.Proofs.Lays.n103 Tryz.prog Tryz.lays103_ren := {
 mixed := by kernel_rfl
 f103 := Tryz.func94.trans (congrArg some (by kernel_rfl))
 f206 := Tryz.func171.trans (congrArg some (by kernel_rfl))
 f210 := Tryz.func132.trans (congrArg some (by kernel_rfl))
 t3 := Tryz.underlying3
 a3 := Tryz.isAgg3
 z3 := Tryz.sizeOf3
 v3 := Tryz.zeroValue3
 t4 := Tryz.underlying4
 a4 := Tryz.isAgg4
 z4 := Tryz.sizeOf4
 v4 := Tryz.zeroValue4
 t9 := Tryz.underlying9
 a9 := Tryz.isAgg9
 z9 := Tryz.sizeOf9
 v9 := Tryz.zeroValue9
 t24 := Tryz.underlying131
 a24 := Tryz.isAgg131
 z24 := Tryz.sizeOf131
 v24 := Tryz.zeroValue131 }
open Go.RowKit in
theorem Tryz.strings_CutPrefix (s p : ByteArray) (w : World) :
  Calls Tryz.prog 94 #[.string s, .string p] w fun e w' => e = .returned (.tuple #[.string ⟨(Lib.trimPrefix s.data.toList p.data.toList).toArray⟩, .bool (Lib.hasPrefix s.data.toList p.data.toList)]) ∧ w' = w := Any.strings_CutPrefix Tryz.lays103 s p w
end Go.Proofs
/- Types and kinds as lists of bytes; spec.l2Dims, spec.TypeOk, spec.KindOf: what each answers at any text. -/
namespace Go.Proofs.YtjjccimeikkogaaGreatDoor
set_option linter.unusedVariables false
open Go.RowKit
def dimsL : List UInt8 → Nat
 | [] => 0
 | b :: t => if b = 91 then dimsL t + 1 else 0
def plainL (l : List UInt8) : Int := match l with
 | [73] => 1
 | [74] => 2
 | [68] => 3
 | 64 :: r => if nameOk r then 4 else 0
 | _ => 0
def kindL (l : List UInt8) : Int := if plainL (l.drop (dimsL l)) = 0 ∨ 4 < dimsL l then 0 else if 0 < dimsL l then 4 else plainL l
def typeL (l : List UInt8) : Bool := kindL l != 0
theorem dimsL_le : ∀ l : List UInt8, dimsL l ≤ l.length
 | [] => Nat.le_refl _
 | b :: t => by
  have := dimsL_le t
  simp only [dimsL, List.length_cons]
  split <;> omega
theorem dims_step {l : List UInt8} {i : Nat} (h : i < l.length) (ha : (l.take i).all (· == 91) = true) (hb : l[i] = 91) : (l.take (i + 1)).all (· == 91) = true := by
 rw [List.take_succ_eq_append_getElem h, List.all_append, ha]; simp [hb]
theorem dims_stop : ∀ {l : List UInt8} {i : Nat}, i ≤ l.length → (l.take i).all (· == 91) = true → (∀ h : i < l.length, l[i] ≠ 91) → dimsL l = i
 | [], i, h, _, _ => by simp at h; simp [dimsL, h]
 | b :: t, 0, _, _, hb => by
  have := hb (by simp)
  simp at this
  simp [dimsL, this]
 | b :: t, i + 1, h, ha, hb => by
  simp only [List.take_succ_cons, List.all_cons, Bool.and_eq_true, beq_iff_eq] at ha
  have ih := dims_stop (l := t) (i := i) (by simpa using h) (by simpa using ha.2) (fun h' => hb (Nat.succ_lt_succ h'))
  simp [dimsL, ha.1, ih]
theorem specDims_calls (s : ByteArray) (w : World) (hs : s.size ≤ 9223372036854775807) : Calls Tryz.prog 89 #[.string s] w fun e w' => e = .returned (.int .i64 (dimsL s.data.toList)) ∧ w' = w := by
 go_enter Tryz.func89, Tryz.ntmps89
 go_wp2
 go_loop [3] (fun v => ∃ i : Nat, v = .int .i64 i ∧ i ≤ s.size ∧ Hid ((s.data.toList.take i).all (· == 91) = true)) (fun v => s.size - (intOf v).toNat)
 case atStart => exact ⟨0, rfl, by omega, rfl⟩
 case round =>
  obtain ⟨i, rfl, hi, hall⟩ := hrel
  by_cases hlt : i < s.size
  ·have hi0 : (0 : Int) ≤ i := by omega
   have hi1 : (i : Int) < s.size := by omega
   by_cases hb : (s[i]'hlt) = 91
   ·have hb' : (((s[i]'hlt).toNat : Int) == 91) = true := by rw [hb]; rfl
    go_wp2
    go_round
    case rel =>
     exact ⟨i + 1, by simp, by omega, dims_step (by rw [toList_size]; exact hlt) hall.out (by rw [← get_toList s i hlt]; exact hb)⟩
    case measure => simp [intOf]; omega
   ·have hb' : (((s[i]'hlt).toNat : Int) == 91) = false := by
     rw [beq_eq_false_iff_ne]; intro h
     exact hb (UInt8.toNat_inj.1 (by have := h; simp only [UInt8.reduceToNat]; omega))
    have e := dims_stop (l := s.data.toList) (i := i) (by rw [toList_size]; exact hi) hall.out (fun _ => by rw [← get_toList s i hlt]; exact hb)
    go_wp2
    go_ret
    exact ⟨by first | rfl | (rw [e]; rfl), rfl⟩
  ·have hi1 : ¬ (i : Int) < s.size := by omega
   have e := dims_stop (l := s.data.toList) (i := i) (by rw [toList_size]; exact hi) hall.out (fun h => absurd h (by rw [toList_size]; omega))
   go_wp2
   go_ret
   exact ⟨by first | rfl | (rw [e]; rfl), rfl⟩
theorem extract_from (s : ByteArray) (n : Nat) : (s.extract n s.size).data.toList = s.data.toList.drop n := by
 rw [ByteArray.data_extract, Array.toList_extract, List.extract_eq_take_drop]
 apply List.take_of_length_le
 rw [List.length_drop, toList_size]; exact Nat.le_refl _
theorem plainL_other {l : List UInt8} (h1 : l ≠ [73]) (h2 : l ≠ [74]) (h3 : l ≠ [68]) (h4 : ∀ r, l ≠ 64 :: r) : plainL l = 0 := by
 unfold plainL
 split <;> simp_all
theorem plainL_at (r : List UInt8) : plainL (64 :: r) = if nameOk r then 4 else 0 := by
 simp [plainL]
theorem typeL_eq (l : List UInt8) : typeL l = (decide (dimsL l ≤ 4) && plainL (l.drop (dimsL l)) != 0) := by
 unfold typeL kindL
 by_cases h4 : 4 < dimsL l
 ·simp [h4, Nat.not_le.2 h4]
 ·by_cases hp : plainL (l.drop (dimsL l)) = 0
  ·simp [hp]
  ·by_cases h0 : 0 < dimsL l
   ·simp [h0, h4, hp]; omega
   ·have : dimsL l = 0 := by omega
    rw [this] at hp ⊢
    simp at hp
    simp [hp]
inductive Form (l : List UInt8) : Prop
 | i (h : l = [73]) | j (h : l = [74]) | d (h : l = [68]) | at (r : List UInt8) (h : l = 64 :: r) | other (h1 : l ≠ [73]) (h2 : l ≠ [74]) (h3 : l ≠ [68]) (h4 : ∀ r, l ≠ 64 :: r)
theorem form (l : List UInt8) : Form l := by
 by_cases h1 : l = [73]
 ·exact .i h1
 by_cases h2 : l = [74]
 ·exact .j h2
 by_cases h3 : l = [68]
 ·exact .d h3
 by_cases h4 : ∃ r, l = 64 :: r
 ·obtain ⟨r, h⟩ := h4; exact .at r h
 ·exact .other h1 h2 h3 (fun r h => h4 ⟨r, h⟩)
theorem head_ne {l : List UInt8} (h5 : ∀ r, l ≠ 64 :: r) (hl : 0 < l.length) (h : (l[0].toNat : Int) = 64) : False := by
 cases l with
 | nil => simp at hl
 | cons b r =>
  refine h5 r (congrArg (· :: r) (UInt8.toNat_inj.1 ?_))
  simp only [List.getElem_cons_zero] at h
  simp only [UInt8.reduceToNat]; omega
theorem specType_calls (s : ByteArray) (w : World) (hs : s.size ≤ 9223372036854775807) : Calls Tryz.prog 61 #[.string s] w fun e w' => e = .returned (.bool (typeL s.data.toList)) ∧ w' = w := by
 have hd : dimsL s.data.toList ≤ s.size := by rw [← toList_size s]; exact dimsL_le _
 have ht := typeL_eq s.data.toList
 rw [← extract_from] at ht
 obtain ⟨T, hT⟩ : ∃ T, s.extract (dimsL s.data.toList) s.size = T := ⟨_, rfl⟩
 have hTs : T.size ≤ 9223372036854775807 := by rw [← hT, ByteArray.size_extract]; omega
 rw [hT] at ht
 obtain ⟨n, hn⟩ : ∃ n, dimsL s.data.toList = n := ⟨_, rfl⟩
 rw [hn] at ht hd hT
 have htH : Hid (typeL s.data.toList = (decide (n ≤ 4) && plainL T.data.toList != 0)) := ht
 clear ht
 have dims := fun w => specDims_calls s w hs
 rw [hn] at dims
 have dimsH : Hid (∀ w, Calls Tryz.prog 89 #[.string s] w fun e w' => e = .returned (.int .i64 n) ∧ w' = w) := dims
 clear dims hn
 by_cases h4 : (n : Int) ≤ 4
 ·have hn4 : n ≤ 4 := by omega
  rcases form T.data.toList with h | h | h | ⟨r, h⟩ | ⟨h1, h2, h3, h5⟩
  ·have e1 : (T.toList == [73]) = true := by rw [ByteArray.toList_eq, h]; rfl
   have hr : typeL s.data.toList = true := by rw [htH.out, h]; simp [hn4, plainL]
   go_enter Tryz.func61, Tryz.ntmps61
   go_wp2_with (first
    | (go_at_call 89; refine (dimsH.out _).mono ?_; rintro e w' ⟨rfl, he⟩; subst he)
    | (go_at_call 90; refine (specName_calls _ _ (by assumption)).mono ?_; rintro e w' ⟨rfl, he⟩; subst he))
   go_ret; exact ⟨by first | rfl | (rw [hr]; rfl), rfl⟩
  ·have e1 : (T.toList == [73]) = false := by rw [ByteArray.toList_eq, h]; rfl
   have e2 : (T.toList == [74]) = true := by rw [ByteArray.toList_eq, h]; rfl
   have hr : typeL s.data.toList = true := by rw [htH.out, h]; simp [hn4, plainL]
   go_enter Tryz.func61, Tryz.ntmps61
   go_wp2_with (first
    | (go_at_call 89; refine (dimsH.out _).mono ?_; rintro e w' ⟨rfl, he⟩; subst he)
    | (go_at_call 90; refine (specName_calls _ _ (by assumption)).mono ?_; rintro e w' ⟨rfl, he⟩; subst he))
   go_ret; exact ⟨by first | rfl | (rw [hr]; rfl), rfl⟩
  ·have e1 : (T.toList == [73]) = false := by rw [ByteArray.toList_eq, h]; rfl
   have e2 : (T.toList == [74]) = false := by rw [ByteArray.toList_eq, h]; rfl
   have e3 : (T.toList == [68]) = true := by rw [ByteArray.toList_eq, h]; rfl
   have hr : typeL s.data.toList = true := by rw [htH.out, h]; simp [hn4, plainL]
   go_enter Tryz.func61, Tryz.ntmps61
   go_wp2_with (first
    | (go_at_call 89; refine (dimsH.out _).mono ?_; rintro e w' ⟨rfl, he⟩; subst he)
    | (go_at_call 90; refine (specName_calls _ _ (by assumption)).mono ?_; rintro e w' ⟨rfl, he⟩; subst he))
   go_ret; exact ⟨by first | rfl | (rw [hr]; rfl), rfl⟩
  ·have e1 : (T.toList == [73]) = false := by rw [ByteArray.toList_eq, h]; simp
   have e2 : (T.toList == [74]) = false := by rw [ByteArray.toList_eq, h]; simp
   have e3 : (T.toList == [68]) = false := by rw [ByteArray.toList_eq, h]; simp
   have hz : 0 < T.size := by rw [← toList_size, h]; simp
   have e4 : (0 : Int) < T.size := by omega
   have e5 : ((T[0]'hz).toNat : Int) = 64 := by rw [get_toList T 0 hz]; simp [h]
   have hx : (1 : Int) ≤ T.size := by omega
   obtain ⟨R, hR⟩ : ∃ R, T.extract 1 T.size = R := ⟨_, rfl⟩
   have hxs : R.size ≤ 9223372036854775807 := by rw [← hR, ByteArray.size_extract]; omega
   have hr : nameOk R.data.toList = typeL s.data.toList := by
    rw [htH.out, ← hR, extract_from, h, plainL_at]; simp [hn4]
    cases nameOk r <;> simp
   clear h
   go_enter Tryz.func61, Tryz.ntmps61
   go_wp2_with (first
    | (go_at_call 89; refine (dimsH.out _).mono ?_; rintro e w' ⟨rfl, he⟩; subst he)
    | (go_at_call 90; refine (specName_calls _ _ (by assumption)).mono ?_; rintro e w' ⟨rfl, he⟩; subst he))
   all_goals (go_ret; exact ⟨by first | (rw [← hr]; rfl) | rfl, rfl⟩)
  ·have e1 : (T.toList == [73]) = false := by rw [ByteArray.toList_eq]; simpa using h1
   have e2 : (T.toList == [74]) = false := by rw [ByteArray.toList_eq]; simpa using h2
   have e3 : (T.toList == [68]) = false := by rw [ByteArray.toList_eq]; simpa using h3
   have hr : typeL s.data.toList = false := by rw [htH.out, plainL_other h1 h2 h3 h5]; simp
   by_cases hz : 0 < T.size
   ·have e4 : (0 : Int) < T.size := by omega
    have e5 : (((T[0]'hz).toNat : Int) == 64) = false := by
     rw [beq_eq_false_iff_ne]; intro h
     rw [get_toList T 0 hz] at h
     exact head_ne h5 _ h
    go_enter Tryz.func61, Tryz.ntmps61
    go_wp2_with (first
     | (go_at_call 89; refine (dimsH.out _).mono ?_; rintro e w' ⟨rfl, he⟩; subst he)
     | (go_at_call 90; refine (specName_calls _ _ (by assumption)).mono ?_; rintro e w' ⟨rfl, he⟩; subst he))
    all_goals (go_ret; exact ⟨by first | rfl | (rw [hr]; rfl), rfl⟩)
   ·have e4 : ¬ (0 : Int) < T.size := by omega
    go_enter Tryz.func61, Tryz.ntmps61
    go_wp2_with (first
     | (go_at_call 89; refine (dimsH.out _).mono ?_; rintro e w' ⟨rfl, he⟩; subst he)
     | (go_at_call 90; refine (specName_calls _ _ (by assumption)).mono ?_; rintro e w' ⟨rfl, he⟩; subst he))
    all_goals (go_ret; exact ⟨by first | rfl | (rw [hr]; rfl), rfl⟩)
 ·have hr : typeL s.data.toList = false := by rw [htH.out]; simp; omega
  go_enter Tryz.func61, Tryz.ntmps61
  go_wp2_with (first
   | (go_at_call 89; refine (dimsH.out _).mono ?_; rintro e w' ⟨rfl, he⟩; subst he)
   | (go_at_call 90; refine (specName_calls _ _ (by assumption)).mono ?_; rintro e w' ⟨rfl, he⟩; subst he))
  all_goals (go_ret; exact ⟨by first | rfl | (rw [hr]; rfl), rfl⟩)
theorem kindL_i : kindL [73] = 1 := by decide
theorem kindL_j : kindL [74] = 2 := by decide
theorem kindL_d : kindL [68] = 3 := by decide
theorem plainL_cases (l : List UInt8) (h1 : l ≠ [73]) (h2 : l ≠ [74]) (h3 : l ≠ [68]) : plainL l = 0 ∨ plainL l = 4 := by
 rcases form l with h | h | h | ⟨r, h⟩ | ⟨h1, h2, h3, h5⟩
 ·exact absurd h h1
 ·exact absurd h h2
 ·exact absurd h h3
 ·rw [h, plainL_at]; split <;> simp
 ·exact .inl (plainL_other h1 h2 h3 h5)
theorem kindL_ref {l : List UInt8} (h1 : l ≠ [73]) (h2 : l ≠ [74]) (h3 : l ≠ [68]) : kindL l = if typeL l then 4 else 0 := by
 unfold typeL
 have : kindL l = 0 ∨ kindL l = 4 := by
  unfold kindL
  split
  ·exact .inl rfl
  ·split
   ·exact .inr rfl
   ·exact plainL_cases l h1 h2 h3
 rcases this with h | h <;> simp [h]
theorem specKind_calls (s : ByteArray) (w : World) (hs : s.size ≤ 9223372036854775807) : Calls Tryz.prog 91 #[.string s] w fun e w' => e = .returned (.int .i64 (kindL s.data.toList)) ∧ w' = w := by
 by_cases h1 : s.data.toList = [73]
 ·have e1 : (s.toList == [73]) = true := by rw [ByteArray.toList_eq, h1]; rfl
  have hr : kindL s.data.toList = 1 := by rw [h1]; exact kindL_i
  clear h1
  go_enter Tryz.func91, Tryz.ntmps91
  go_wp2_with (first
   | (go_at_call 61; refine (specType_calls _ _ hs).mono ?_; rintro e w' ⟨rfl, he⟩; subst he))
  all_goals (go_ret; exact ⟨by first | rfl | (rw [hr]; rfl), rfl⟩)
 have e1 : (s.toList == [73]) = false := by rw [ByteArray.toList_eq]; simpa using h1
 by_cases h2 : s.data.toList = [74]
 ·have e2 : (s.toList == [74]) = true := by rw [ByteArray.toList_eq, h2]; rfl
  have hr : kindL s.data.toList = 2 := by rw [h2]; exact kindL_j
  clear h2
  go_enter Tryz.func91, Tryz.ntmps91
  go_wp2_with (first
   | (go_at_call 61; refine (specType_calls _ _ hs).mono ?_; rintro e w' ⟨rfl, he⟩; subst he))
  all_goals (go_ret; exact ⟨by first | rfl | (rw [hr]; rfl), rfl⟩)
 have e2 : (s.toList == [74]) = false := by rw [ByteArray.toList_eq]; simpa using h2
 by_cases h3 : s.data.toList = [68]
 ·have e3 : (s.toList == [68]) = true := by rw [ByteArray.toList_eq, h3]; rfl
  have hr : kindL s.data.toList = 3 := by rw [h3]; exact kindL_d
  clear h3
  go_enter Tryz.func91, Tryz.ntmps91
  go_wp2_with (first
   | (go_at_call 61; refine (specType_calls _ _ hs).mono ?_; rintro e w' ⟨rfl, he⟩; subst he))
  all_goals (go_ret; exact ⟨by first | rfl | (rw [hr]; rfl), rfl⟩)
 have e3 : (s.toList == [68]) = false := by rw [ByteArray.toList_eq]; simpa using h3
 have hk := kindL_ref h1 h2 h3
 cases ht : typeL s.data.toList with
 | true =>
  have hr : kindL s.data.toList = 4 := by rw [hk, ht]; rfl
  clear hk h1 h2 h3
  go_enter Tryz.func91, Tryz.ntmps91
  go_wp2_with (first
   | (go_at_call 61; refine (specType_calls _ _ hs).mono ?_; rintro e w' ⟨rfl, he⟩; subst he))
  all_goals (go_ret; exact ⟨by first | rfl | (rw [hr]; rfl), rfl⟩)
 | false =>
  have hr : kindL s.data.toList = 0 := by rw [hk, ht]; rfl
  clear hk h1 h2 h3
  go_enter Tryz.func91, Tryz.ntmps91
  go_wp2_with (first
   | (go_at_call 61; refine (specType_calls _ _ hs).mono ?_; rintro e w' ⟨rfl, he⟩; subst he))
  all_goals (go_ret; exact ⟨by first | rfl | (rw [hr]; rfl), rfl⟩)
theorem implName_below (s : ByteArray) (w : World) (hs : s.size ≤ 9223372036854775807) : Calls Tryz.prog 111 #[.string s] w fun e w' => e = .returned (.bool (nameOk s.data.toList)) ∧ Below w.heap.size w w' := by
 refine (implName_calls s w hs).mono ?_
 rintro e w' ⟨rfl, rfl | ⟨pos, rfl⟩⟩
 ·exact ⟨rfl, Below.refl _ _⟩
 ·exact ⟨rfl, (Below.refl _ _).alloc (Nat.le_refl _) _⟩
theorem hasPrefix_at (r : List UInt8) : Lib.hasPrefix (64 :: r) [64] = true := by simp [Lib.hasPrefix]
theorem hasPrefix_other {l : List UInt8} (h : ∀ r, l ≠ 64 :: r) : Lib.hasPrefix l [64] = false := by
 cases l with
 | nil => rfl
 | cons b r =>
  have : b ≠ 64 := fun e => h r (by rw [e])
  simp [Lib.hasPrefix, List.isPrefixOf, Ne.symm this]
theorem plainKind_calls (s : ByteArray) (w : World) (hs : s.size ≤ 9223372036854775807) : Calls Tryz.prog 131 #[.string s] w fun e w' => e = .returned (.int .i64 (plainL s.data.toList)) ∧ Below w.heap.size w w' := by
 rcases form s.data.toList with h | h | h | ⟨r, h⟩ | ⟨h1, h2, h3, h5⟩
 ·have e1 : (s.toList == [73]) = true := by rw [ByteArray.toList_eq, h]; rfl
  have hr : plainL s.data.toList = 1 := by rw [h]; rfl
  clear h
  go_enter Tryz.func131, Tryz.ntmps131
  go_wp2
  go_ret; exact ⟨by first | rfl | (rw [hr]; rfl), Below.refl _ _⟩
 ·have e1 : (s.toList == [73]) = false := by rw [ByteArray.toList_eq, h]; rfl
  have e2 : (s.toList == [74]) = true := by rw [ByteArray.toList_eq, h]; rfl
  have hr : plainL s.data.toList = 2 := by rw [h]; rfl
  clear h
  go_enter Tryz.func131, Tryz.ntmps131
  go_wp2
  go_ret; exact ⟨by first | rfl | (rw [hr]; rfl), Below.refl _ _⟩
 ·have e1 : (s.toList == [73]) = false := by rw [ByteArray.toList_eq, h]; rfl
  have e2 : (s.toList == [74]) = false := by rw [ByteArray.toList_eq, h]; rfl
  have e3 : (s.toList == [68]) = true := by rw [ByteArray.toList_eq, h]; rfl
  have hr : plainL s.data.toList = 3 := by rw [h]; rfl
  clear h
  go_enter Tryz.func131, Tryz.ntmps131
  go_wp2
  go_ret; exact ⟨by first | rfl | (rw [hr]; rfl), Below.refl _ _⟩
 ·have e1 : (s.toList == [73]) = false := by rw [ByteArray.toList_eq, h]; simp
  have e2 : (s.toList == [74]) = false := by rw [ByteArray.toList_eq, h]; simp
  have e3 : (s.toList == [68]) = false := by rw [ByteArray.toList_eq, h]; simp
  obtain ⟨R, hR⟩ : ∃ R : ByteArray, R = ⟨r.toArray⟩ := ⟨_, rfl⟩
  have hRl : R.data.toList = r := by rw [hR]
  have hRs : R.size ≤ 9223372036854775807 := by
   rw [← toList_size, hRl]
   have := toList_size s
   rw [h] at this
   simp at this; omega
  have cut : ∀ w, Calls Tryz.prog 94 #[.string s, .string ⟨#[64]⟩] w fun e w' => e = .returned (.tuple #[.string R, .bool true]) ∧ w' = w := by
   intro w
   refine (Tryz.strings_CutPrefix s ⟨#[64]⟩ w).mono ?_
   rintro e w' ⟨rfl, rfl⟩
   refine ⟨?_, rfl⟩
   rw [h, hR, Lib.trimPrefix, hasPrefix_at]
   rfl
  have cutH : Hid (∀ w, Calls Tryz.prog 94 #[.string s, .string ⟨#[64]⟩] w fun e w' => e = .returned (.tuple #[.string R, .bool true]) ∧ w' = w) := cut
  cases hn : nameOk R.data.toList with
  | true =>
   have hr : plainL s.data.toList = 4 := by rw [h, plainL_at, ← hRl, hn]; rfl
   clear h hR hRl cut
   go_enter Tryz.func131, Tryz.ntmps131
   go_wp2_with (first
    | (go_at_call 94; refine (cutH.out _).mono ?_; rintro e w' ⟨rfl, he⟩; subst he)
    | (go_at_call 111; refine (implName_below _ _ hRs).mono ?_; rintro e w2 ⟨rfl, hb⟩))
   all_goals (go_ret; exact ⟨by first | rfl | (rw [hr]; rfl), by assumption⟩)
  | false =>
   have hr : plainL s.data.toList = 0 := by rw [h, plainL_at, ← hRl, hn]; rfl
   clear h hR hRl cut
   go_enter Tryz.func131, Tryz.ntmps131
   go_wp2_with (first
    | (go_at_call 94; refine (cutH.out _).mono ?_; rintro e w' ⟨rfl, he⟩; subst he)
    | (go_at_call 111; refine (implName_below _ _ hRs).mono ?_; rintro e w2 ⟨rfl, hb⟩))
   all_goals (go_ret; exact ⟨by first | rfl | (rw [hr]; rfl), by assumption⟩)
 ·have e1 : (s.toList == [73]) = false := by rw [ByteArray.toList_eq]; simpa using h1
  have e2 : (s.toList == [74]) = false := by rw [ByteArray.toList_eq]; simpa using h2
  have e3 : (s.toList == [68]) = false := by rw [ByteArray.toList_eq]; simpa using h3
  have hr : plainL s.data.toList = 0 := plainL_other h1 h2 h3 h5
  have cutH : Hid (∀ w, Calls Tryz.prog 94 #[.string s, .string ⟨#[64]⟩] w fun e w' => ∃ R, e = .returned (.tuple #[.string R, .bool false]) ∧ w' = w) := by
   intro w
   refine (Tryz.strings_CutPrefix s ⟨#[64]⟩ w).mono ?_
   rintro e w' ⟨rfl, rfl⟩
   refine ⟨⟨(Lib.trimPrefix s.data.toList [64]).toArray⟩, ?_, rfl⟩
   rw [← hasPrefix_other h5]
  clear h1 h2 h3 h5
  go_enter Tryz.func131, Tryz.ntmps131
  go_wp2_with (first
   | (go_at_call 94; refine (cutH.out _).mono ?_; rintro e w' ⟨R, rfl, he⟩; subst he))
  all_goals (go_ret; exact ⟨by first | rfl | (rw [hr]; rfl), Below.refl _ _⟩)
theorem trim_drop : ∀ l : List UInt8, Lib.trimLeftB l 91 = l.drop (dimsL l)
 | [] => rfl
 | b :: t => by
  have ih := trim_drop t
  unfold Lib.trimLeftB at ih ⊢
  by_cases h : b = 91
  ·simp [dimsL, h, List.dropWhile, ih]
  ·have : (b == 91) = false := by simpa using h
   simp [dimsL, h, List.dropWhile, this]
theorem implKind_calls (s : ByteArray) (w : World) (hs : s.size ≤ 9223372036854775807) : Calls Tryz.prog 92 #[.string s] w fun e w' => e = .returned (.int .i64 (kindL s.data.toList)) ∧ Below w.heap.size w w' := by
 have hd := dimsL_le s.data.toList
 obtain ⟨E, hE⟩ : ∃ E : ByteArray, E = ⟨(s.data.toList.drop (dimsL s.data.toList)).toArray⟩ := ⟨_, rfl⟩
 have hEl : E.data.toList = s.data.toList.drop (dimsL s.data.toList) := by rw [hE]
 have hEs : E.size + dimsL s.data.toList = s.size := by
  rw [← toList_size E, hEl, List.length_drop, ← toList_size s]; omega
 have hk : Hid (kindL s.data.toList = if plainL E.data.toList = 0 ∨ 4 < dimsL s.data.toList then 0 else if 0 < dimsL s.data.toList then 4 else plainL E.data.toList) := by
  show _ = _
  rw [hEl]
  unfold kindL
  by_cases h0 : 0 < dimsL s.data.toList
  ·simp [h0]
  ·have : dimsL s.data.toList = 0 := by omega
   rw [this]; simp
 have trimH : Hid (∀ w, Calls Tryz.prog 130 #[.string s, .string ⟨#[91]⟩] w fun e w' => e = .returned (.string E) ∧ w' = w) := by
  intro w
  refine (Tryz.strings_TrimLeft_one s 91 (by decide) w).mono ?_
  rintro e w' ⟨rfl, rfl⟩
  exact ⟨by rw [trim_drop, hE], rfl⟩
 have hEb : E.size ≤ 9223372036854775807 := by omega
 generalize dimsL s.data.toList = d at *
 have plainH : Hid (∀ w, Calls Tryz.prog 131 #[.string E] w fun e w' => e = .returned (.int .i64 (plainL E.data.toList)) ∧ Below w.heap.size w w') := fun w => plainKind_calls E w hEb
 generalize plainL E.data.toList = k at *
 generalize kindL s.data.toList = r at *
 have hsub : (s.size : Int) - E.size = d := by omega
 have hwr : wrap64 (d : Int) = d := by unfold wrap64; omega
 clear hE hEl hs hEb hEs
 by_cases h0 : k = 0
 ·have hr : r = 0 := by rw [hk.out]; simp [h0]
  clear hk
  go_enter Tryz.func92, Tryz.ntmps92
  go_wp2_with (first
   | (go_at_call 130; refine (trimH.out _).mono ?_; rintro e w' ⟨rfl, he⟩; subst he)
   | (go_at_call 131; refine (plainH.out _).mono ?_; rintro e w2 ⟨rfl, hb⟩))
  all_goals (go_ret; exact ⟨by first | rfl | (rw [hr]; rfl), by assumption⟩)
 have h0' : (k == 0) = false := by simpa using h0
 by_cases h4 : (4 : Int) < d
 ·have hr : r = 0 := by rw [hk.out]; simp [show 4 < d by omega]
  clear hk
  go_enter Tryz.func92, Tryz.ntmps92
  go_wp2_with (first
   | (go_at_call 130; refine (trimH.out _).mono ?_; rintro e w' ⟨rfl, he⟩; subst he)
   | (go_at_call 131; refine (plainH.out _).mono ?_; rintro e w2 ⟨rfl, hb⟩))
  all_goals (go_ret; exact ⟨by first | rfl | (rw [hr]; rfl), by assumption⟩)
 by_cases hd0 : (0 : Int) < d
 ·have hr : r = 4 := by rw [hk.out]; simp [h0, show ¬ 4 < d by omega, show 0 < d by omega]
  clear hk
  go_enter Tryz.func92, Tryz.ntmps92
  go_wp2_with (first
   | (go_at_call 130; refine (trimH.out _).mono ?_; rintro e w' ⟨rfl, he⟩; subst he)
   | (go_at_call 131; refine (plainH.out _).mono ?_; rintro e w2 ⟨rfl, hb⟩))
  all_goals (go_ret; exact ⟨by first | rfl | (rw [hr]; rfl), by assumption⟩)
 ·have hr : r = k := by rw [hk.out]; simp [h0, show ¬ 4 < d by omega, show ¬ 0 < d by omega]
  clear hk
  go_enter Tryz.func92, Tryz.ntmps92
  go_wp2_with (first
   | (go_at_call 130; refine (trimH.out _).mono ?_; rintro e w' ⟨rfl, he⟩; subst he)
   | (go_at_call 131; refine (plainH.out _).mono ?_; rintro e w2 ⟨rfl, hb⟩))
  all_goals (go_ret; exact ⟨by first | rfl | (rw [hr]; rfl), by assumption⟩)
theorem implType_calls (s : ByteArray) (w : World) (hs : s.size ≤ 9223372036854775807) : Calls Tryz.prog 179 #[.string s] w fun e w' => e = .returned (.bool (typeL s.data.toList)) ∧ Below w.heap.size w w' := by
 unfold typeL
 have kindH : Hid (∀ w, Calls Tryz.prog 92 #[.string s] w fun e w' => e = .returned (.int .i64 (kindL s.data.toList)) ∧ Below w.heap.size w w') := fun w => implKind_calls s w hs
 generalize kindL s.data.toList = k at *
 go_enter Tryz.func179, Tryz.ntmps179
 go_wp2_with (first
  | (go_at_call 92; refine (kindH.out _).mono ?_; rintro e w2 ⟨rfl, hb⟩))
 all_goals (go_ret; exact ⟨rfl, by assumption⟩)
end Go.Proofs.YtjjccimeikkogaaGreatDoor
