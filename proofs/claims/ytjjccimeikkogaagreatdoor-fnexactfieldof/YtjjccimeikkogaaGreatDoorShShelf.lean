import Derived.Shelf.Strconv.Itoa0
import Derived.Shelf.Strconv.Itoa1
import Derived.Shelf.Strconv.Itoa2
import Derived.Shelf.Strconv.Itoa3
import Derived.Shelf.Strconv.Itoa4
import Derived.Shelf.Strconv.ParseIntEmpty
import Derived.Shelf.Strconv.Clone
import Derived.Shelf.Strconv.SyntaxError
import Derived.Shelf.LaysC
import Derived.Shelf.Strconv.ToError
import Derived.Shelf.Strconv.Lower
import Derived.Shelf.Strconv.ParseUint10
import Derived.Shelf.Strconv.ParseUint10Empty
import Derived.Shelf.Strconv.ParseUint10Any
import Derived.Shelf.Strconv.ParseInt10
import Derived.Shelf.Strconv.RangeError
import Derived.Shelf.Strconv.ToErrorRange
import Derived.Shelf.Strconv.ParseUintEmpty
import Derived.Shelf.Strconv.ParseUint10b64
import Derived.Shelf.Strconv.ParseUint10b32
import Derived.Shelf.Strconv.ParseUint10b16
import Derived.Shelf.Strconv.ParseUint10b8
import Derived.Shelf.Strconv.ParseUint10At
import Derived.Shelf.Strconv.ParseInt10At64
import Derived.Shelf.Strconv.ParseInt10At32
import Derived.Shelf.Strconv.ParseInt10At16
import Derived.Shelf.Strconv.ParseInt10At8
import Derived.Shelf.Strconv.ParseInt10All
import Derived.Shelf.Strconv.ParseIntPublic10
import Derived.Shelf.Strconv.ErrVarParseInt
import Derived.OwnWalk
import Derived.LoopTactic
import Derived.Below
import Derived.Laws.IdiomStrings
import Derived.Laws.Concat
import Derived.Lib.ItoaNum
import Derived.Lib.ParseIntB
import Derived.Test.YtjjccimeikkogaaGreatDoorShelf
import Derived.Lib.AtoiErrMem
import Derived.Lib.LaidTab
set_option maxRecDepth 1000000
set_option maxHeartbeats 4000000
namespace Go.Proofs
open Go.Shelf
def Tryz.laysM173_ren : Go.Shelf.Ren := ⟨fun | 173 => 257 | 246 => 268 | 283 => 275 | 284 => 276 | 285 => 277 | 286 => 278 | 129 => 285 | 317 => 284 | 318 => 286 | 319 => 287 | 320 => 288 | 337 => 290 | 338 => 291 | n => n, fun | 2 => 2 | 3 => 3 | 9 => 9 | 4 => 4 | 171 => 273 | 0 => 0 | 53 => 255 | 37 => 85 | 5 => 5 | 173 => 276 | 212 => 283 | 51 => 264 | 20 => 20 | 213 => 284 | 46 => 224 | 232 => 292 | 233 => 293 | n => n, fun | 17 => 7 | 18 => 8 | 19 => 9 | n => n⟩
theorem Tryz.laysM173 : Go.Proofs.LaysM.n173 Tryz.prog Tryz.laysM173_ren := {
 mixed := by kernel_rfl
 f129 := Tryz.func285.trans (congrArg some (by kernel_rfl))
 f173 := Tryz.func257.trans (congrArg some (by kernel_rfl))
 f246 := Tryz.func268.trans (congrArg some (by kernel_rfl))
 f283 := Tryz.func275.trans (congrArg some (by kernel_rfl))
 f284 := Tryz.func276.trans (congrArg some (by kernel_rfl))
 f285 := Tryz.func277.trans (congrArg some (by kernel_rfl))
 f286 := Tryz.func278.trans (congrArg some (by kernel_rfl))
 f317 := Tryz.func284.trans (congrArg some (by kernel_rfl))
 f318 := Tryz.func286.trans (congrArg some (by kernel_rfl))
 f319 := Tryz.func287.trans (congrArg some (by kernel_rfl))
 f320 := Tryz.func288.trans (congrArg some (by kernel_rfl))
 f337 := Tryz.func290.trans (congrArg some (by kernel_rfl))
 f338 := Tryz.func291.trans (congrArg some (by kernel_rfl))
 t0 := Tryz.underlying0
 a0 := Tryz.isAgg0
 z0 := Tryz.sizeOf0
 v0 := Tryz.zeroValue0
 t2 := Tryz.underlying2
 a2 := Tryz.isAgg2
 z2 := Tryz.sizeOf2
 v2 := Tryz.zeroValue2
 t3 := Tryz.underlying3
 a3 := Tryz.isAgg3
 z3 := Tryz.sizeOf3
 v3 := Tryz.zeroValue3
 t4 := Tryz.underlying4
 a4 := Tryz.isAgg4
 z4 := Tryz.sizeOf4
 v4 := Tryz.zeroValue4
 t5 := Tryz.underlying5
 a5 := Tryz.isAgg5
 z5 := Tryz.sizeOf5
 v5 := Tryz.zeroValue5
 t9 := Tryz.underlying9
 a9 := Tryz.isAgg9
 z9 := Tryz.sizeOf9
 v9 := Tryz.zeroValue9
 t20 := Tryz.underlying20
 a20 := Tryz.isAgg20
 z20 := Tryz.sizeOf20
 v20 := Tryz.zeroValue20
 t37 := Tryz.underlying85
 a37 := Tryz.isAgg85
 z37 := Tryz.sizeOf85
 v37 := Tryz.zeroValue85
 t46 := Tryz.underlying224
 a46 := Tryz.isAgg224
 z46 := Tryz.sizeOf224
 v46 := Tryz.zeroValue224
 t51 := Tryz.underlying264
 a51 := Tryz.isAgg264
 z51 := Tryz.sizeOf264
 v51 := Tryz.zeroValue264
 t53 := Tryz.underlying255
 a53 := Tryz.isAgg255
 z53 := Tryz.sizeOf255
 v53 := Tryz.zeroValue255
 t171 := Tryz.underlying273
 a171 := Tryz.isAgg273
 z171 := Tryz.sizeOf273
 v171 := Tryz.zeroValue273
 t173 := Tryz.underlying276
 a173 := Tryz.isAgg276
 z173 := Tryz.sizeOf276
 v173 := Tryz.zeroValue276
 t212 := Tryz.underlying283
 a212 := Tryz.isAgg283
 z212 := Tryz.sizeOf283
 v212 := Tryz.zeroValue283
 t213 := Tryz.underlying284
 a213 := Tryz.isAgg284
 z213 := Tryz.sizeOf284
 t232 := Tryz.underlying292
 a232 := Tryz.isAgg292
 z232 := Tryz.sizeOf292
 v232 := Tryz.zeroValue292
 t233 := Tryz.underlying293
 a233 := Tryz.isAgg293
 z233 := Tryz.sizeOf293
 v233 := Tryz.zeroValue293
 g17 := by kernel_rfl
 g18 := by kernel_rfl
 g19 := by kernel_rfl
 i0 := by kernel_rfl
 i2 := by kernel_rfl
 i3 := by kernel_rfl
 i4 := by kernel_rfl
 i5 := by kernel_rfl
 i9 := by kernel_rfl
 i20 := by kernel_rfl
 i37 := by kernel_rfl
 i46 := by kernel_rfl
 i51 := by kernel_rfl
 i53 := by kernel_rfl
 i171 := by kernel_rfl
 i173 := by kernel_rfl
 i212 := by kernel_rfl
 i232 := by kernel_rfl
 i233 := by kernel_rfl
 m17 := by kernel_rfl
 m18 := by kernel_rfl
 m19 := by kernel_rfl }
open Go.RowKit Go.Sort Go.Lib in
theorem Tryz.strconv_FormatInt_10 (n : Int) (h0 : -9223372036854775808 ≤ n) (h1 : n ≤ 9223372036854775807) (w : World) (htab : Lib.TabIs Tryz.prog w "internal/strconv.uint64pow10" .u64 Lib.pow10Tab) :
  Calls Tryz.prog 257 #[.int .i64 n, .int .i64 10] w fun e w' => e = .returned (.string ⟨(Lib.itoa n).toArray⟩) ∧ ∃ k os, w' = grow (w.drewN k) os := Any.strconv_FormatInt_10 Tryz.laysM173 n h0 h1 w htab
def Tryz.laysC174_ren : Go.Shelf.Ren := ⟨fun | 174 => 256 | 247 => 266 | 245 => 267 | 287 => 270 | 279 => 271 | 280 => 272 | 281 => 273 | 282 => 274 | 321 => 279 | 322 => 280 | 316 => 281 | 171 => 283 | 205 => 282 | 243 => 289 | 246 => 268 | 283 => 275 | 284 => 276 | 285 => 277 | 286 => 278 | 129 => 285 | 317 => 284 | 318 => 286 | 319 => 287 | 320 => 288 | 337 => 290 | 338 => 291 | n => n, fun | 9 => 9 | 3 => 3 | 2 => 2 | 75 => 250 | 85 => 251 | 4 => 4 | 167 => 267 | 5 => 5 | 53 => 255 | 175 => 268 | 46 => 224 | 168 => 270 | 37 => 85 | 0 => 0 | 210 => 280 | 21 => 21 | 127 => 287 | 145 => 290 | 143 => 288 | 171 => 273 | 173 => 276 | 212 => 283 | 51 => 264 | 20 => 20 | 213 => 284 | 232 => 292 | 233 => 293 | 80 => 294 | n => n, fun | 15 => 5 | 16 => 6 | 17 => 7 | 18 => 8 | 19 => 9 | n => n⟩
theorem Tryz.laysC174 : Go.Proofs.LaysC.n174 Tryz.prog Tryz.laysC174_ren := {
 mixed := by kernel_rfl
 f129 := Tryz.func285.trans (congrArg some (by kernel_rfl))
 f171 := Tryz.func283.trans (congrArg some (by kernel_rfl))
 f174 := Tryz.func256.trans (congrArg some (by kernel_rfl))
 f205 := Tryz.func282.trans (congrArg some (by kernel_rfl))
 f243 := Tryz.func289.trans (congrArg some (by kernel_rfl))
 f245 := Tryz.func267.trans (congrArg some (by kernel_rfl))
 f246 := Tryz.func268.trans (congrArg some (by kernel_rfl))
 f247 := Tryz.func266.trans (congrArg some (by kernel_rfl))
 f279 := Tryz.func271.trans (congrArg some (by kernel_rfl))
 f280 := Tryz.func272.trans (congrArg some (by kernel_rfl))
 f281 := Tryz.func273.trans (congrArg some (by kernel_rfl))
 f282 := Tryz.func274.trans (congrArg some (by kernel_rfl))
 f283 := Tryz.func275.trans (congrArg some (by kernel_rfl))
 f284 := Tryz.func276.trans (congrArg some (by kernel_rfl))
 f285 := Tryz.func277.trans (congrArg some (by kernel_rfl))
 f286 := Tryz.func278.trans (congrArg some (by kernel_rfl))
 f287 := Tryz.func270.trans (congrArg some (by kernel_rfl))
 f316 := Tryz.func281.trans (congrArg some (by kernel_rfl))
 f317 := Tryz.func284.trans (congrArg some (by kernel_rfl))
 f318 := Tryz.func286.trans (congrArg some (by kernel_rfl))
 f319 := Tryz.func287.trans (congrArg some (by kernel_rfl))
 f320 := Tryz.func288.trans (congrArg some (by kernel_rfl))
 f321 := Tryz.func279.trans (congrArg some (by kernel_rfl))
 f322 := Tryz.func280.trans (congrArg some (by kernel_rfl))
 f337 := Tryz.func290.trans (congrArg some (by kernel_rfl))
 f338 := Tryz.func291.trans (congrArg some (by kernel_rfl))
 t0 := Tryz.underlying0
 a0 := Tryz.isAgg0
 z0 := Tryz.sizeOf0
 v0 := Tryz.zeroValue0
 t2 := Tryz.underlying2
 a2 := Tryz.isAgg2
 z2 := Tryz.sizeOf2
 v2 := Tryz.zeroValue2
 t3 := Tryz.underlying3
 a3 := Tryz.isAgg3
 z3 := Tryz.sizeOf3
 v3 := Tryz.zeroValue3
 t4 := Tryz.underlying4
 a4 := Tryz.isAgg4
 z4 := Tryz.sizeOf4
 v4 := Tryz.zeroValue4
 t5 := Tryz.underlying5
 a5 := Tryz.isAgg5
 z5 := Tryz.sizeOf5
 v5 := Tryz.zeroValue5
 t9 := Tryz.underlying9
 a9 := Tryz.isAgg9
 z9 := Tryz.sizeOf9
 v9 := Tryz.zeroValue9
 t20 := Tryz.underlying20
 a20 := Tryz.isAgg20
 z20 := Tryz.sizeOf20
 v20 := Tryz.zeroValue20
 t21 := Tryz.underlying21
 a21 := Tryz.isAgg21
 z21 := Tryz.sizeOf21
 v21 := Tryz.zeroValue21
 t37 := Tryz.underlying85
 a37 := Tryz.isAgg85
 z37 := Tryz.sizeOf85
 v37 := Tryz.zeroValue85
 t46 := Tryz.underlying224
 a46 := Tryz.isAgg224
 z46 := Tryz.sizeOf224
 v46 := Tryz.zeroValue224
 t51 := Tryz.underlying264
 a51 := Tryz.isAgg264
 z51 := Tryz.sizeOf264
 v51 := Tryz.zeroValue264
 t53 := Tryz.underlying255
 a53 := Tryz.isAgg255
 z53 := Tryz.sizeOf255
 v53 := Tryz.zeroValue255
 t75 := Tryz.underlying250
 a75 := Tryz.isAgg250
 z75 := Tryz.sizeOf250
 v75 := Tryz.zeroValue250
 t85 := Tryz.underlying251
 a85 := Tryz.isAgg251
 z85 := Tryz.sizeOf251
 v85 := Tryz.zeroValue251
 t127 := Tryz.underlying287
 a127 := Tryz.isAgg287
 z127 := Tryz.sizeOf287
 v127 := Tryz.zeroValue287
 t143 := Tryz.underlying288
 a143 := Tryz.isAgg288
 z143 := Tryz.sizeOf288
 v143 := Tryz.zeroValue288
 t145 := Tryz.underlying290
 a145 := Tryz.isAgg290
 z145 := Tryz.sizeOf290
 v145 := Tryz.zeroValue290
 t167 := Tryz.underlying267
 a167 := Tryz.isAgg267
 z167 := Tryz.sizeOf267
 v167 := Tryz.zeroValue267
 t168 := Tryz.underlying270
 a168 := Tryz.isAgg270
 z168 := Tryz.sizeOf270
 v168 := Tryz.zeroValue270
 t171 := Tryz.underlying273
 a171 := Tryz.isAgg273
 z171 := Tryz.sizeOf273
 v171 := Tryz.zeroValue273
 t173 := Tryz.underlying276
 a173 := Tryz.isAgg276
 z173 := Tryz.sizeOf276
 v173 := Tryz.zeroValue276
 t175 := Tryz.underlying268
 a175 := Tryz.isAgg268
 z175 := Tryz.sizeOf268
 v175 := Tryz.zeroValue268
 t210 := Tryz.underlying280
 a210 := Tryz.isAgg280
 z210 := Tryz.sizeOf280
 v210 := Tryz.zeroValue280
 t212 := Tryz.underlying283
 a212 := Tryz.isAgg283
 z212 := Tryz.sizeOf283
 v212 := Tryz.zeroValue283
 t213 := Tryz.underlying284
 a213 := Tryz.isAgg284
 z213 := Tryz.sizeOf284
 t232 := Tryz.underlying292
 a232 := Tryz.isAgg292
 z232 := Tryz.sizeOf292
 v232 := Tryz.zeroValue292
 t233 := Tryz.underlying293
 a233 := Tryz.isAgg293
 z233 := Tryz.sizeOf293
 v233 := Tryz.zeroValue293
 g15 := by kernel_rfl
 g16 := by kernel_rfl
 g17 := by kernel_rfl
 g18 := by kernel_rfl
 g19 := by kernel_rfl
 t80 := Tryz.underlying294
 a80 := Tryz.isAgg294
 z80 := Tryz.sizeOf294
 v80 := Tryz.zeroValue294
 i0 := by kernel_rfl
 i2 := by kernel_rfl
 i3 := by kernel_rfl
 i4 := by kernel_rfl
 i5 := by kernel_rfl
 i9 := by kernel_rfl
 i20 := by kernel_rfl
 i21 := by kernel_rfl
 i37 := by kernel_rfl
 i46 := by kernel_rfl
 i51 := by kernel_rfl
 i53 := by kernel_rfl
 i75 := by kernel_rfl
 i80 := by kernel_rfl
 i85 := by kernel_rfl
 i127 := by kernel_rfl
 i143 := by kernel_rfl
 i145 := by kernel_rfl
 i167 := by kernel_rfl
 i168 := by kernel_rfl
 i171 := by kernel_rfl
 i173 := by kernel_rfl
 i175 := by kernel_rfl
 i210 := by kernel_rfl
 i212 := by kernel_rfl
 i232 := by kernel_rfl
 i233 := by kernel_rfl
 m15 := by kernel_rfl
 m16 := by kernel_rfl
 m17 := by kernel_rfl
 m18 := by kernel_rfl
 m19 := by kernel_rfl
 c0 := by kernel_rfl
 c2 := by kernel_rfl
 c3 := by kernel_rfl
 c4 := by kernel_rfl
 c5 := by kernel_rfl
 c9 := by kernel_rfl
 c20 := by kernel_rfl
 c21 := by kernel_rfl
 c37 := by kernel_rfl
 c46 := by kernel_rfl
 c51 := by kernel_rfl
 c53 := by kernel_rfl
 c75 := by kernel_rfl
 c80 := by kernel_rfl
 c85 := by kernel_rfl
 c127 := by kernel_rfl
 c143 := by kernel_rfl
 c145 := by kernel_rfl
 c167 := by kernel_rfl
 c168 := by kernel_rfl
 c171 := by kernel_rfl
 c173 := by kernel_rfl
 c175 := by kernel_rfl
 c210 := by kernel_rfl
 c212 := by kernel_rfl
 c213 := by kernel_rfl
 c232 := by kernel_rfl
 c233 := by kernel_rfl }
open Go.RowKit in
theorem Tryz.strconv_ParseInt_10_at64_ok (s : ByteArray) (hmax : s.size ≤ 9223372036854775806) (v : Int) (h : Lib.parseIntB 64 s.data.toList = .ok v) (w : World) :
  Calls Tryz.prog 256 #[.string s, .int .i64 10, .int .i64 64] w fun e w' => e = .returned (.tuple #[.int .i64 v, .nilIface]) ∧ (w' = w ∨ ∃ t, w' = Lib.bytesWorld w 5 t) := Any.strconv_ParseInt_10_at64_ok Tryz.laysC174 s hmax v h w
open Go.RowKit in
theorem Tryz.strconv_ParseInt_10_at64_syntax (s : ByteArray) (hlim : s.size ≤ 281474976710656) (h : Lib.parseIntB 64 s.data.toList = .«syntax») (ev : Value) (w : World) (hv : w.cell? ⟨5, 0, none⟩ = some ev) (hev : ev = .nilIface ∨ ∃ te pe, ev = .iface te pe) :
  Calls Tryz.prog 256 #[.string s, .int .i64 10, .int .i64 64] w fun e w' => ∃ N, e = .returned (.tuple #[.int .i64 (0), .iface 270 (.pointer (some ⟨N, 0, none⟩))]) ∧ w.heap.size ≤ N ∧ w'.heap[N]? = some (.cells #[.string ⟨#[80, 97, 114, 115, 101, 73, 110, 116]⟩, .string s, ev] 280 (0, 0)) ∧ Below w.heap.size w w' := Any.strconv_ParseInt_10_at64_syntax Tryz.laysC174 s hlim h ev w hv hev
open Go.RowKit in
theorem Tryz.strconv_ParseInt_10_at64_range (s : ByteArray) (hlim : s.size ≤ 281474976710656) (h : Lib.parseIntB 64 s.data.toList = .range) (ev : Value) (w : World) (hv : w.cell? ⟨6, 0, none⟩ = some ev) (hev : ev = .nilIface ∨ ∃ te pe, ev = .iface te pe) :
  Calls Tryz.prog 256 #[.string s, .int .i64 10, .int .i64 64] w fun e w' => ∃ N, e = .returned (.tuple #[.int .i64 (Lib.intSat 64 s.data.toList), .iface 270 (.pointer (some ⟨N, 0, none⟩))]) ∧ w.heap.size ≤ N ∧ w'.heap[N]? = some (.cells #[.string ⟨#[80, 97, 114, 115, 101, 73, 110, 116]⟩, .string s, ev] 280 (0, 0)) ∧ Below w.heap.size w w' := Any.strconv_ParseInt_10_at64_range Tryz.laysC174 s hlim h ev w hv hev
end Go.Proofs
/- Decimal numerals: spec.l1Int and spec.l1ReadInt, what they answer. -/
namespace Go.Proofs.YtjjccimeikkogaaGreatDoor.Sh
set_option linter.unusedVariables false
open Go.ChangeShapes Go.WideShapes Go.ChangeAt Go.RowKit
def mkS (p : List UInt8) : ByteArray := ⟨p.toArray⟩
theorem mkS_list (p : List UInt8) : (mkS p).data.toList = p := rfl
theorem mkS_append (a b : List UInt8) : mkS a ++ mkS b = mkS (a ++ b) := by
 simp [mkS, ByteArray.mk_append_mk]
def decF (u : Nat) (acc : List UInt8) : List UInt8 := if u ≤ 9 then UInt8.ofNat (48 + u) :: acc else decF (u / 10) (UInt8.ofNat (48 + u % 10) :: acc)
theorem decF_low {u : Nat} (h : u ≤ 9) (acc : List UInt8) : decF u acc = UInt8.ofNat (48 + u) :: acc := by rw [decF, if_pos h]
theorem decF_step {u : Nat} (h : ¬ u ≤ 9) (acc : List UInt8) : decF u acc = decF (u / 10) (UInt8.ofNat (48 + u % 10) :: acc) := by rw [decF, if_neg h]
theorem decF_dec : ∀ (n u : Nat) (acc : List UInt8), u ≤ n → decF u acc = Lib.decDigits u ++ acc := by
 intro n
 induction n with
 | zero =>
  intro u acc h
  obtain rfl : u = 0 := by omega
  rw [decF_low (by omega), Lib.decDigits]; simp
 | succ n ih =>
  intro u acc h
  by_cases h9 : u ≤ 9
  ·rw [decF_low h9, Lib.decDigits, dif_pos (by omega)]; rfl
  ·rw [decF_step h9, ih (u / 10) _ (by omega)]
   conv => rhs; rw [Lib.decDigits, dif_neg (by omega)]
   simp
def dec3 (m : Nat) : List UInt8 := if m < 10 then [UInt8.ofNat (48 + m)] else if m < 100 then [UInt8.ofNat (48 + m / 10), UInt8.ofNat (48 + m % 10)] else [UInt8.ofNat (48 + m / 100), UInt8.ofNat (48 + m / 10 % 10), UInt8.ofNat (48 + m % 10)]
theorem dec3_eq {m : Nat} (h : m < 1000) : Lib.decDigits m = dec3 m := by
 have e := (decF_dec m m [] (Nat.le_refl _)).symm
 rw [List.append_nil] at e
 rw [e]
 unfold dec3
 by_cases h1 : m < 10
 ·rw [if_pos h1, decF_low (by omega)]
 ·rw [if_neg h1, decF_step (by omega)]
  by_cases h2 : m < 100
  ·rw [if_pos h2, decF_low (by omega)]
  ·rw [if_neg h2, decF_step (by omega), decF_low (by omega)]
   rw [Nat.div_div_eq_div_mul]
def rd : List UInt8 → Nat → Nat → Nat
 | [], _, n => n
 | b :: t, i, n => rd t (i + 1) (if 48 ≤ b.toNat ∧ b.toNat ≤ 57 ∧ i < 16 then n * 10 + (b.toNat - 48) else n)
def shapeNum (d : List UInt8) : Bool := (List.range 400).any fun m => dec3 m == d
theorem table1 : ((List.range 400).all fun m => rd (dec3 m) 0 0 == m) = true := by decide +kernel
theorem table2 : ((List.range 400).all fun m => match Lib.parseIntB 64 (dec3 m) with | .ok v => v == (m : Int) | _ => false) = true := by decide +kernel
theorem table3 : ((List.range 400).all fun m => match dec3 m with | b :: _ => b != 45 | [] => false) = true := by decide +kernel
theorem shapeNum_iff (d : List UInt8) : shapeNum d = true ↔ ∃ m, m < 400 ∧ d = dec3 m := by
 unfold shapeNum
 rw [List.any_eq_true]
 constructor
 ·rintro ⟨m, hm, h⟩
  exact ⟨m, List.mem_range.1 hm, (beq_iff_eq.1 h).symm⟩
 ·rintro ⟨m, hm, h⟩
  exact ⟨m, List.mem_range.2 hm, by rw [h]; simp⟩
theorem shapeNum_read (d : List UInt8) : (decide (rd d 0 0 < 400) && (Lib.decDigits (rd d 0 0) == d)) = shapeNum d := by
 rw [Bool.eq_iff_iff, shapeNum_iff]
 simp only [Bool.and_eq_true, decide_eq_true_eq, beq_iff_eq]
 constructor
 ·rintro ⟨h1, h2⟩
  exact ⟨_, h1, by rw [← dec3_eq (by omega)]; exact h2.symm⟩
 ·rintro ⟨m, hm, rfl⟩
  have h := List.all_eq_true.1 table1 m (List.mem_range.2 hm)
  rw [beq_iff_eq] at h
  rw [h]
  exact ⟨hm, dec3_eq (by omega)⟩
theorem shapeNum_minus (t : List UInt8) : shapeNum (45 :: t) = false := by
 cases h : shapeNum (45 :: t) with
 | false => rfl
 | true =>
  obtain ⟨m, hm, e⟩ := (shapeNum_iff _).1 h
  have h := List.all_eq_true.1 table3 m (List.mem_range.2 hm)
  rw [← e] at h
  simp at h
theorem shapeNum_nil : shapeNum [] = false := by
 cases h : shapeNum [] with
 | false => rfl
 | true =>
  obtain ⟨m, hm, e⟩ := (shapeNum_iff _).1 h
  have h := List.all_eq_true.1 table3 m (List.mem_range.2 hm)
  rw [← e] at h
  simp at h
theorem shapeNum_parse {d : List UInt8} {v : Int} (h : Lib.parseIntB 64 d = .ok v) : (decide (0 ≤ v) && decide (v < 400) && (Lib.itoa v == d)) = shapeNum d := by
 rw [Bool.eq_iff_iff, shapeNum_iff]
 simp only [Bool.and_eq_true, decide_eq_true_eq, beq_iff_eq]
 constructor
 ·rintro ⟨⟨h1, h2⟩, h3⟩
  refine ⟨v.toNat, by omega, ?_⟩
  rw [← dec3_eq (by omega), ← h3, Lib.itoa, if_neg (by omega)]
 ·rintro ⟨m, hm, rfl⟩
  have h' := List.all_eq_true.1 table2 m (List.mem_range.2 hm)
  rw [h] at h'
  simp at h'
  subst h'
  refine ⟨⟨by omega, by omega⟩, ?_⟩
  rw [Lib.itoa, if_neg (by omega)]
  exact dec3_eq (m := m) (by omega)
theorem shapeNum_bad {d : List UInt8} (h : ∀ v, Lib.parseIntB 64 d ≠ .ok v) : shapeNum d = false := by
 cases hs : shapeNum d with
 | false => rfl
 | true =>
  obtain ⟨m, hm, rfl⟩ := (shapeNum_iff _).1 hs
  have h' := List.all_eq_true.1 table2 m (List.mem_range.2 hm)
  split at h'
  ·rename_i v hv; exact absurd hv (h v)
  ·cases h'
end Go.Proofs.YtjjccimeikkogaaGreatDoor.Sh
/- spec.l1Int: what it answers at numbers below 10^16 either way. -/
namespace Go.Proofs.YtjjccimeikkogaaGreatDoor.Sh
set_option linter.unusedVariables false
open Go.ChangeShapes Go.WideShapes Go.ChangeAt Go.RowKit
theorem conv_one (W : World) (b : UInt8) (z : Int) (hz : z = b.toNat) : (convert 85 9 (.slice (some ⟨W.heap.size, 0, none⟩) 1 1)).run Tryz.prog (W.alloc (.cells #[.int .u8 z] 5)) = .ok (.string (mkS [b])) (W.alloc (.cells #[.int .u8 z] 5)) := by
 subst hz
 refine run_convert_bytes_back _ 85 9 5 ⟨W.heap.size, 0, none⟩ 1 [b] Tryz.underlying85 Tryz.underlying5 Tryz.underlying9 ?_
 intro j hj
 have : j = 0 := by simp at hj; omega
 subst this
 simp [Addr.add]
theorem byte_of {n : Nat} (h : n < 256) : ((UInt8.ofNat n).toNat : Int) = n := by
 simp only [UInt8.toNat_ofNat', Nat.reducePow]; omega
theorem len_step {u len : Nat} (h : u * 10 ^ len < 10 ^ 20) (hu : 9 < u) : (u / 10) * 10 ^ (len + 1) < 10 ^ 20 ∧ len < 20 := by
 constructor
 ·rw [Nat.pow_succ, Nat.mul_comm (10 ^ len) 10, ← Nat.mul_assoc]
  exact Nat.lt_of_le_of_lt (Nat.mul_le_mul_right _ (Nat.div_mul_le_self u 10)) h
 ·have h2 : 10 ^ len < 10 ^ 20 := Nat.lt_of_le_of_lt (Nat.le_mul_of_pos_left _ (by omega)) h
  exact (Nat.pow_lt_pow_iff_right (by decide)).1 h2
theorem l1Int_pos (k : Nat) (w : World) (hk : k < 10000000000000000) : Calls Tryz.prog 245 #[.int .i64 k] w fun e w' => e = .returned (.string (mkS (Lib.decDigits k))) ∧ Below w.heap.size w w' := by
 have hk0 : ¬ (k : Int) < 0 := by omega
 have hkn : (k : Int) < 10000000000000000 := by omega
 go_enter Tryz.func245, Tryz.ntmps245
 go_wp2
 go_loopw [3, 4] (fun ov kv wr => ∃ (u : Nat) (acc : List UInt8), kv = .int .u64 u ∧ ov = .string (mkS acc) ∧ Hid (decF u acc = decF k []) ∧ u < 10000000000000000 ∧ Hid (u * 10 ^ acc.length < 10 ^ 20) ∧ acc.length ≤ 20 ∧ Below w.heap.size w wr) (fun _ kv _ => (intOf kv).toNat)
 case atStart => exact ⟨k, [], rfl, rfl, rfl, hk, by show _ < _; simp; omega, by simp, Below.refl _ _⟩
 case round =>
  obtain ⟨u, acc, rfl, rfl, hd, hu, hpow, hlen, hb⟩ := hrel
  have hs2 : (mkS acc).size ≤ 20 := by rw [← toList_size, mkS_list]; exact hlen
  by_cases h9 : (9 : Int) < u
  ·obtain ⟨hp2, hl2⟩ := len_step hpow.out (by omega)
   have hpH : Hid ((u / 10) * 10 ^ (acc.length + 1) < 10 ^ 20) := hp2
   obtain ⟨b, hbe⟩ : ∃ b, b = UInt8.ofNat (48 + u % 10) := ⟨_, rfl⟩
   have conv := conv_one wr b (48 + (u : Int) % 10) (by rw [hbe, byte_of (n := 48 + u % 10) (by omega)]; omega)
   have hd2 : Hid (decF (u / 10) (b :: acc) = decF k []) := by show _ = _; rw [← hd.out, decF_step (u := u) (by omega), hbe]
   have hs1 : (mkS [b]).size = 1 := rfl
   have happ : Hid (mkS [b] ++ mkS acc = mkS (b :: acc)) := mkS_append [b] acc
   clear hd hpow hp2 hbe
   go_wp2
   go_roundw
   case rel => exact ⟨u / 10, b :: acc, by simp, by rw [happ.out], hd2, by omega, hpH, by simp; omega, hb.alloc hb.size _⟩
   case measure => simp [intOf]; omega
  ·obtain ⟨b, hbe⟩ : ∃ b, b = UInt8.ofNat (48 + u) := ⟨_, rfl⟩
   have hub : u ≤ 9 := by omega
   have conv := conv_one wr b (48 + (u : Int)) (by rw [hbe, byte_of (n := 48 + u) (by omega)]; omega)
   have hd2 : Hid (mkS (b :: acc) = mkS (Lib.decDigits k)) := by
    show _ = _
    rw [← List.append_nil (Lib.decDigits k), ← decF_dec k k [] (Nat.le_refl _), ← hd.out, decF_low hub, hbe]
   have hs1 : (mkS [b]).size = 1 := rfl
   have happ : mkS [b] ++ mkS acc = mkS (b :: acc) := mkS_append [b] acc
   have happH : Hid (mkS [b] ++ mkS acc = mkS (b :: acc)) := happ
   clear hd hpow hbe happ hu hk hkn
   go_wp2
   go_ret
   refine ⟨?_, hb.alloc hb.size _⟩
   rw [← hd2.out, ← happH.out]; rfl
theorem l1Int_neg (k : Nat) (w : World) (h1 : 1 ≤ k) (hk : k < 10000000000000000) : Calls Tryz.prog 245 #[.int .i64 (-(k : Int))] w fun e w' => ∃ X, e = .returned (.string X) ∧ Below w.heap.size w w' := by
 have hk0 : -(k : Int) < 0 := by omega
 have hw : IntKind.u64.wrap (-IntKind.u64.wrap (-(k : Int))) = k := by
  simp only [IntKind.wrap, IntKind.bits, IntKind.signed]
  simp
  omega
 go_enter Tryz.func245, Tryz.ntmps245
 go_wp2
 clear hw
 go_loopw [3, 4] (fun ov kv wr => ∃ (u : Nat) (acc : List UInt8), kv = .int .u64 u ∧ ov = .string (mkS acc) ∧ u < 10000000000000000 ∧ Hid (u * 10 ^ acc.length < 10 ^ 20) ∧ acc.length ≤ 20 ∧ Below w.heap.size w wr) (fun _ kv _ => (intOf kv).toNat)
 case atStart => exact ⟨k, [], rfl, rfl, hk, by show _ < _; simp; omega, by simp, Below.refl _ _⟩
 case round =>
  obtain ⟨u, acc, rfl, rfl, hu, hpow, hlen, hb⟩ := hrel
  have hs2 : (mkS acc).size ≤ 20 := by rw [← toList_size, mkS_list]; exact hlen
  by_cases h9 : (9 : Int) < u
  ·obtain ⟨hp2, hl2⟩ := len_step hpow.out (by omega)
   have hpH : Hid ((u / 10) * 10 ^ (acc.length + 1) < 10 ^ 20) := hp2
   obtain ⟨b, hbe⟩ : ∃ b, b = UInt8.ofNat (48 + u % 10) := ⟨_, rfl⟩
   have conv := conv_one wr b (48 + (u : Int) % 10) (by rw [hbe, byte_of (n := 48 + u % 10) (by omega)]; omega)
   have hs1 : (mkS [b]).size = 1 := rfl
   have happ : Hid (mkS [b] ++ mkS acc = mkS (b :: acc)) := mkS_append [b] acc
   clear hpow hp2 hbe
   go_wp2
   go_roundw
   case rel => exact ⟨u / 10, b :: acc, by simp, by rw [happ.out], by omega, hpH, by simp; omega, hb.alloc hb.size _⟩
   case measure => simp [intOf]; omega
  ·obtain ⟨b, hbe⟩ : ∃ b, b = UInt8.ofNat (48 + u) := ⟨_, rfl⟩
   have hub : u ≤ 9 := by omega
   have conv := conv_one wr b (48 + (u : Int)) (by rw [hbe, byte_of (n := 48 + u) (by omega)]; omega)
   have hs1 : (mkS [b]).size = 1 := rfl
   have happ : mkS [b] ++ mkS acc = mkS (b :: acc) := mkS_append [b] acc
   have hs3 : (mkS (b :: acc)).size ≤ 21 := by rw [← toList_size, mkS_list]; simp; omega
   clear hpow hbe hu hk
   go_wp2
   go_ret
   first | exact ⟨⟨_, rfl⟩, hb.alloc hb.size _⟩ | exact ⟨_, rfl, hb.alloc hb.size _⟩
end Go.Proofs.YtjjccimeikkogaaGreatDoor.Sh
/- spec.l1ReadInt: what it answers at any text. -/
namespace Go.Proofs.YtjjccimeikkogaaGreatDoor.Sh
set_option linter.unusedVariables false
open Go.ChangeShapes Go.WideShapes Go.ChangeAt Go.RowKit
def digB (b : UInt8) (i : Nat) : Bool := decide (48 ≤ b.toNat) && decide (b.toNat ≤ 57) && decide (i < 16)
theorem rd_dig {l : List UInt8} {i n : Nat} (h : i < l.length) (hd : digB l[i] i = true) : rd (l.drop i) i n = rd (l.drop (i + 1)) (i + 1) (n * 10 + (l[i].toNat - 48)) := by
 rw [List.drop_eq_getElem_cons h, rd]
 simp [digB] at hd
 rw [if_pos ⟨hd.1.1, hd.1.2, hd.2⟩]
theorem rd_not {l : List UInt8} {i n : Nat} (h : i < l.length) (hd : digB l[i] i = false) : rd (l.drop i) i n = rd (l.drop (i + 1)) (i + 1) n := by
 rw [List.drop_eq_getElem_cons h, rd]
 rw [if_neg]
 rintro ⟨h1, h2, h3⟩
 simp [digB, h1, h2, h3] at hd
def ReadPost (l : List UInt8) (w : World) (e : Ending) (w' : World) : Prop :=
 ∃ (nv : Int) (b : Bool), e = .returned (.tuple #[.int .i64 nv, .bool b]) ∧ Below w.heap.size w w' ∧ ((nv = rd l 0 0 ∧ b = (Lib.decDigits (rd l 0 0) == l)) ∨ (nv < 0 ∧ ∃ t, l = 45 :: t))
theorem head45 {l : List UInt8} (hl : 0 < l.length) (h : (l[0].toNat : Int) = 45) : ∃ t, l = 45 :: t := by
 cases l with
 | nil => simp at hl
 | cons b r =>
  refine ⟨r, congrArg (· :: r) (UInt8.toNat_inj.1 ?_)⟩
  simp only [List.getElem_cons_zero] at h
  simp only [UInt8.reduceToNat]; omega
theorem readInt_calls (s : ByteArray) (w : World) (hs : s.size ≤ 1048576) : Calls Tryz.prog 230 #[.string s] w (ReadPost s.data.toList w) := by
 have hlen := toList_size s
 go_enter Tryz.func230, Tryz.ntmps230
 go_wp2
 go_loop [4, 5] (fun nv iv => ∃ n i : Nat, nv = .int .i64 n ∧ iv = .int .i64 i ∧ i ≤ s.size ∧ n < 10000000000000000 ∧ Hid (i ≤ 16 → n < 10 ^ i) ∧ Hid (rd (s.data.toList.drop i) i n = rd s.data.toList 0 0)) (fun _ iv => s.size - (intOf iv).toNat)
 case atStart => exact ⟨0, 0, rfl, rfl, by omega, by omega, fun _ => by simp, by simp [Hid]⟩
 case round =>
  obtain ⟨n, i, rfl, rfl, hi, hn, hpow, hrd⟩ := hrel
  by_cases hlt : i < s.size
  ·have hi0 : (0 : Int) ≤ i := by omega
   have hi1 : (i : Int) < s.size := by omega
   have hg := get_toList s i hlt
   by_cases hdig : digB (s[i]'hlt) i = true
   ·have hrd2 : Hid (rd (s.data.toList.drop (i + 1)) (i + 1) (n * 10 + ((s[i]'hlt).toNat - 48)) = rd s.data.toList 0 0) := by
     show _ = _
     rw [← hrd.out, rd_dig (l := s.data.toList) (i := i) (n := n) (by rw [hlen]; exact hlt) (by rw [← hg]; exact hdig), hg]
    simp only [digB, Bool.and_eq_true, decide_eq_true_eq] at hdig
    obtain ⟨⟨d1, d2⟩, d3⟩ := hdig
    have hp1 : n < 1000000000000000 := Nat.lt_of_lt_of_le (hpow.out (by omega)) (Nat.le_trans (Nat.pow_le_pow_right (by decide) (show i ≤ 15 by omega)) (by decide))
    have hp2 : Hid (i + 1 ≤ 16 → n * 10 + ((s[i]'hlt).toNat - 48) < 10 ^ (i + 1)) := fun _ => by
     have := hpow.out (by omega)
     rw [Nat.pow_succ]; omega
    have c1 : (48 : Int) ≤ ((s[i]'hlt).toNat : Int) := by omega
    have c2 : ((s[i]'hlt).toNat : Int) ≤ 57 := by omega
    have c3 : (i : Int) < 16 := by omega
    clear hrd hpow hg hn
    go_wp2
    go_round
    case rel => exact ⟨n * 10 + ((s[i]'hlt).toNat - 48), i + 1, by simp only [Value.int.injEq, true_and]; omega, by simp, by omega, by omega, hp2, hrd2⟩
    case measure => first | (simp [intOf]; done) | (simp [intOf]; omega)
   ·have hdig' : digB (s[i]'hlt) i = false := by simpa using hdig
    have hrd2 : Hid (rd (s.data.toList.drop (i + 1)) (i + 1) n = rd s.data.toList 0 0) := by
     show _ = _
     rw [← hrd.out, rd_not (l := s.data.toList) (i := i) (n := n) (by rw [hlen]; exact hlt) (by rw [← hg]; exact hdig')]
    have hp2 : Hid (i + 1 ≤ 16 → n < 10 ^ (i + 1)) := fun h => Nat.lt_of_lt_of_le (hpow.out (by omega)) (Nat.pow_le_pow_right (by decide) (Nat.le_succ i))
    have hcase : ¬ (48 ≤ ((s[i]'hlt).toNat : Int)) ∨ ¬ (((s[i]'hlt).toNat : Int) ≤ 57) ∨ ¬ ((i : Int) < 16) := by
     simp only [digB, Bool.and_eq_false_imp, Bool.and_eq_true, decide_eq_true_eq, decide_eq_false_iff_not] at hdig'
     omega
    clear hrd hpow hg hdig hdig'
    rcases hcase with c1 | c1 | c1
    ·go_wp2
     go_round
     case rel => exact ⟨n, i + 1, rfl, by simp, by omega, hn, hp2, hrd2⟩
     case measure => first | (simp [intOf]; done) | (simp [intOf]; omega)
    ·go_wp2
     all_goals (
      go_round
      case rel => exact ⟨n, i + 1, rfl, by simp, by omega, hn, hp2, hrd2⟩
      case measure => first | (simp [intOf]; done) | (simp [intOf]; omega))
    ·go_wp2
     all_goals (
      go_round
      case rel => exact ⟨n, i + 1, rfl, by simp, by omega, hn, hp2, hrd2⟩
      case measure => first | (simp [intOf]; done) | (simp [intOf]; omega))
  ·have hi1 : ¬ (i : Int) < s.size := by omega
   have hfin : rd s.data.toList 0 0 = n := by
    rw [← hrd.out, List.drop_eq_nil_of_le (by rw [hlen]; omega), rd]
   clear hrd hpow
   have posH : Hid (∀ w, Calls Tryz.prog 245 #[.int .i64 n] w fun e w' => e = .returned (.string (mkS (Lib.decDigits n))) ∧ Below w.heap.size w w') := fun w => l1Int_pos n w hn
   have negH : Hid (1 ≤ n → ∀ w, Calls Tryz.prog 245 #[.int .i64 (-(n : Int))] w fun e w' => ∃ X, e = .returned (.string X) ∧ Below w.heap.size w w') := fun h w => l1Int_neg n w h hn
   have hres : Hid (((mkS (Lib.decDigits n)).toList == s.toList) = (Lib.decDigits n == s.data.toList)) := by
    show _ = _
    rw [ByteArray.toList_eq, ByteArray.toList_eq, mkS_list]
   by_cases hm : ∃ t, s.data.toList = 45 :: t
   ·obtain ⟨t, ht⟩ := hm
    have hz : 0 < s.size := by rw [← hlen, ht]; simp
    have e1 : (0 : Int) < s.size := by omega
    have e2 : (((s[0]'hz).toNat : Int) == 45) = true := by rw [get_toList s 0 hz]; simp [ht]
    have htH : Hid (∃ t, s.data.toList = 45 :: t) := ⟨t, ht⟩
    clear ht
    by_cases hn0 : n = 0
    ·subst hn0
     have zeroH : Hid (∀ w, Calls Tryz.prog 245 #[.int .i64 0] w fun e w' => e = .returned (.string (mkS (Lib.decDigits 0))) ∧ Below w.heap.size w w') := fun w => posH.out w
     clear posH negH
     go_wp2_with (go_at_call 245; refine (zeroH.out _).mono ?_; rintro e w1 ⟨rfl, hb⟩)
     go_ret2
     exact ⟨_, _, rfl, hb, .inl ⟨by first | rfl | (rw [hfin]; rfl), by first | (rw [hfin]; exact hres.out) | exact hres.out⟩⟩
    ·have hn1 : (1 : Int) ≤ n := by omega
     have negH2 : Hid (∀ w, Calls Tryz.prog 245 #[.int .i64 (-(n : Int))] w fun e w' => ∃ X, e = .returned (.string X) ∧ Below w.heap.size w w') := negH.out (by omega)
     clear posH negH hres
     go_wp2_with (go_at_call 245; refine (negH2.out _).mono ?_; rintro e w1 ⟨X, rfl, hb⟩)
     go_ret2
     exact ⟨_, _, rfl, hb, .inr ⟨by omega, htH.out⟩⟩
   ·have fin : ∀ w1 : World, Below w.heap.size w w1 → ReadPost s.data.toList w (.returned (.tuple #[.int .i64 n, .bool ((mkS (Lib.decDigits n)).toList == s.toList)])) w1 := fun w1 hb =>
     ⟨_, _, rfl, hb, .inl ⟨by rw [hfin], by rw [hfin]; exact hres.out⟩⟩
    have finH : Hid (∀ w1 : World, Below w.heap.size w w1 → ReadPost s.data.toList w (.returned (.tuple #[.int .i64 n, .bool ((mkS (Lib.decDigits n)).toList == s.toList)])) w1) := fin
    clear fin hfin hres negH
    by_cases hz : 0 < s.size
    ·have e1 : (0 : Int) < s.size := by omega
     have e2 : (((s[0]'hz).toNat : Int) == 45) = false := by
      rw [beq_eq_false_iff_ne]; intro h
      rw [get_toList s 0 hz] at h
      refine hm ?_
      have hl : 0 < s.data.toList.length := by rw [hlen]; exact hz
      exact head45 hl h
     clear hm
     go_wp2_with (go_at_call 245; refine (posH.out _).mono ?_; rintro e w1 ⟨rfl, hb⟩)
     go_ret2
     exact finH.out _ hb
    ·have e1 : ¬ (0 : Int) < s.size := by omega
     clear hm
     go_wp2_with (go_at_call 245; refine (posH.out _).mono ?_; rintro e w1 ⟨rfl, hb⟩)
     go_ret2
     exact finH.out _ hb
end Go.Proofs.YtjjccimeikkogaaGreatDoor.Sh
/- Shapes as lists of bytes; ShapeOk on both sides: what each answers at any text of at most 2^20 bytes. -/
namespace Go.Proofs.YtjjccimeikkogaaGreatDoor.Sh
set_option linter.unusedVariables false
open Go.ChangeShapes Go.WideShapes Go.ChangeAt Go.RowKit
def shapeL (l : List UInt8) : Bool := l == [48] || l == [45] || l == [33, 33] || typeL l || (match l with | 33 :: d => shapeNum d | _ => false)
theorem shapeL_bang (d : List UInt8) (h2 : (33 :: d : List UInt8) ≠ [33, 33]) (ht : typeL (33 :: d) = false) : shapeL (33 :: d) = shapeNum d := by
 have : ((33 :: d : List UInt8) == [33, 33]) = false := by simpa using h2
 simp [shapeL, this, ht]
theorem shapeL_other {l : List UInt8} (h1 : (l == [48]) = false) (h2 : (l == [45]) = false) (h3 : (l == [33, 33]) = false) (h4 : ∀ d, l ≠ 33 :: d) : shapeL l = typeL l := by
 unfold shapeL
 rw [h1, h2, h3]
 split
 ·rename_i d; exact absurd rfl (h4 d)
 ·simp
theorem head33 {l : List UInt8} (hl : 0 < l.length) (h : (l[0].toNat : Int) = 33) : ∃ t, l = 33 :: t := by
 cases l with
 | nil => simp at hl
 | cons b r =>
  refine ⟨r, congrArg (· :: r) (UInt8.toNat_inj.1 ?_)⟩
  simp only [List.getElem_cons_zero] at h
  simp only [UInt8.reduceToNat]; omega
theorem specShape_calls (s : ByteArray) (w : World) (hs : s.size ≤ 1048576) : Calls Tryz.prog 208 #[.string s] w fun e w' => e = .returned (.bool (shapeL s.data.toList)) ∧ Below w.heap.size w w' := by
 have hlen := toList_size s
 have typeH : Hid (∀ w, Calls Tryz.prog 61 #[.string s] w fun e w' => e = .returned (.bool (typeL s.data.toList)) ∧ w' = w) := fun w => specType_calls s w (by omega)
 by_cases h1 : s.data.toList = [48]
 ·have e1 : (s.toList == [48]) = true := by rw [ByteArray.toList_eq, h1]; rfl
  have hr : shapeL s.data.toList = true := by rw [h1]; rfl
  clear h1
  go_enter Tryz.func208, Tryz.ntmps208
  go_wp2_with (first | (go_at_call 61; refine (typeH.out _).mono ?_; rintro e w ⟨rfl, he⟩; subst he))
  all_goals (go_ret; exact ⟨by first | rfl | (rw [hr]; rfl), Below.refl _ _⟩)
 by_cases h2 : s.data.toList = [45]
 ·have e1 : (s.toList == [48]) = false := by rw [ByteArray.toList_eq, h2]; rfl
  have e2 : (s.toList == [45]) = true := by rw [ByteArray.toList_eq, h2]; rfl
  have hr : shapeL s.data.toList = true := by rw [h2]; rfl
  clear h1 h2
  go_enter Tryz.func208, Tryz.ntmps208
  go_wp2_with (first | (go_at_call 61; refine (typeH.out _).mono ?_; rintro e w ⟨rfl, he⟩; subst he))
  all_goals (go_ret; exact ⟨by first | rfl | (rw [hr]; rfl), Below.refl _ _⟩)
 by_cases h3 : s.data.toList = [33, 33]
 ·have e1 : (s.toList == [48]) = false := by rw [ByteArray.toList_eq, h3]; rfl
  have e2 : (s.toList == [45]) = false := by rw [ByteArray.toList_eq, h3]; rfl
  have e3 : (s.toList == [33, 33]) = true := by rw [ByteArray.toList_eq, h3]; rfl
  have hr : shapeL s.data.toList = true := by rw [h3]; rfl
  clear h1 h2 h3
  go_enter Tryz.func208, Tryz.ntmps208
  go_wp2_with (first | (go_at_call 61; refine (typeH.out _).mono ?_; rintro e w ⟨rfl, he⟩; subst he))
  all_goals (go_ret; exact ⟨by first | rfl | (rw [hr]; rfl), Below.refl _ _⟩)
 have e1 : (s.toList == [48]) = false := by rw [ByteArray.toList_eq]; simpa using h1
 have e2 : (s.toList == [45]) = false := by rw [ByteArray.toList_eq]; simpa using h2
 have e3 : (s.toList == [33, 33]) = false := by rw [ByteArray.toList_eq]; simpa using h3
 have l1 : (s.data.toList == [48]) = false := by simpa using h1
 have l2 : (s.data.toList == [45]) = false := by simpa using h2
 have l3 : (s.data.toList == [33, 33]) = false := by simpa using h3
 cases ht : typeL s.data.toList with
 | true =>
  have hr : shapeL s.data.toList = true := by unfold shapeL; rw [ht]; simp
  clear h1 h2 h3 l1 l2 l3
  go_enter Tryz.func208, Tryz.ntmps208
  go_wp2_with (first | (go_at_call 61; refine (typeH.out _).mono ?_; rintro e w ⟨rfl, he⟩; subst he))
  all_goals (go_ret; exact ⟨by first | rfl | (rw [hr]; rfl), Below.refl _ _⟩)
 | false =>
  by_cases hb : ∃ d, s.data.toList = 33 :: d
  ·obtain ⟨d, hd⟩ := hb
   have hr : shapeL s.data.toList = shapeNum d := by
    rw [hd] at ht h3 ⊢; exact shapeL_bang d h3 ht
   by_cases hd0 : d = []
   ·subst hd0
    have hsz : (s.size : Int) < 2 := by rw [← hlen, hd]; simp
    rw [shapeNum_nil] at hr
    clear h1 h2 h3 l1 l2 l3 hd
    go_enter Tryz.func208, Tryz.ntmps208
    go_wp2_with (first | (go_at_call 61; refine (typeH.out _).mono ?_; rintro e w ⟨rfl, he⟩; subst he))
    all_goals (go_ret; exact ⟨by first | rfl | (rw [hr]; rfl), Below.refl _ _⟩)
   ·have hdl : 1 ≤ d.length := by
     rcases Nat.eq_zero_or_pos d.length with h | h
     ·exact absurd (List.eq_nil_of_length_eq_zero h) hd0
     ·exact h
    have hsz1 : s.size = d.length + 1 := by rw [← hlen, hd]; simp
    have hsz : ¬ (s.size : Int) < 2 := by omega
    have hz : 0 < s.size := by omega
    have e4 : (((s[0]'hz).toNat : Int) != 33) = false := by rw [get_toList s 0 hz]; simp [hd]
    have hx : (1 : Int) ≤ s.size := by omega
    obtain ⟨D, hD⟩ : ∃ D, s.extract 1 s.size = D := ⟨_, rfl⟩
    have hDl : D.data.toList = d := by rw [← hD, extract_from, hd]; rfl
    have readH : Hid (∀ w, Calls Tryz.prog 230 #[.string D] w (ReadPost d w)) := fun w => by
     rw [← hDl]; exact readInt_calls D w (by rw [← hD, ByteArray.size_extract]; omega)
    have fin : ∀ (nv : Int) (b : Bool), ((nv = rd d 0 0 ∧ b = (Lib.decDigits (rd d 0 0) == d)) ∨ (nv < 0 ∧ ∃ t, d = 45 :: t)) → (b && decide (0 ≤ nv) && decide (nv < 400)) = shapeNum d := by
     rintro nv b (⟨rfl, rfl⟩ | ⟨hneg, t, rfl⟩)
     ·rw [← shapeNum_read]
      have a1 : decide ((0 : Int) ≤ (rd d 0 0 : Nat)) = true := by simp
      have a2 : decide (((rd d 0 0 : Nat) : Int) < 400) = decide (rd d 0 0 < 400) := decide_eq_decide.2 (by omega)
      rw [a1, a2, Bool.and_true, Bool.and_comm]
     ·rw [shapeNum_minus]; simp; intro _; omega
    have finH : Hid (∀ (nv : Int) (b : Bool), ((nv = rd d 0 0 ∧ b = (Lib.decDigits (rd d 0 0) == d)) ∨ (nv < 0 ∧ ∃ t, d = 45 :: t)) → (b && decide (0 ≤ nv) && decide (nv < 400)) = shapeNum d) := fin
    clear h1 h2 h3 l1 l2 l3 hd hDl fin hd0 hdl hsz1
    go_enter Tryz.func208, Tryz.ntmps208
    go_wp2_with (first
     | (go_at_call 61; refine (typeH.out _).mono ?_; rintro e w ⟨rfl, he⟩; subst he)
     | (go_at_call 230; refine (readH.out _).mono ?_; rintro e w1 ⟨nv, b, rfl, hb1, hcase⟩; have hf := finH.out nv b hcase; clear hcase finH))
    all_goals (
     go_ret
     refine ⟨?_, hb1⟩
     try rw [hr]
     rw [← hf]
     go_light
     clear hf hr typeH readH e1 e2 e3 e4 ht hD hx
     rcases Int.lt_or_le nv 0 with hneg | hpos
     ·have hdn : decide (0 ≤ nv) = false := decide_eq_false (by omega)
      first | (exfalso; omega) | simp [hdn]
     ·have hdn : decide (0 ≤ nv) = true := decide_eq_true hpos
      first | (exfalso; omega) | (simp [hdn]; done) | (simp_all; done))
  ·have hr : shapeL s.data.toList = false := by rw [shapeL_other l1 l2 l3 (fun d h => hb ⟨d, h⟩), ht]
   by_cases hz : 2 ≤ s.size
   ·have hsz : ¬ (s.size : Int) < 2 := by omega
    have hz0 : 0 < s.size := by omega
    have e4 : (((s[0]'hz0).toNat : Int) != 33) = true := by
     rw [bne_iff_ne]; intro h
     rw [get_toList s 0 hz0] at h
     exact hb (head33 (by rw [hlen]; exact hz0) h)
    clear h1 h2 h3 l1 l2 l3 hb
    go_enter Tryz.func208, Tryz.ntmps208
    go_wp2_with (first | (go_at_call 61; refine (typeH.out _).mono ?_; rintro e w ⟨rfl, he⟩; subst he))
    all_goals (go_ret; exact ⟨by first | rfl | (rw [hr]; rfl), Below.refl _ _⟩)
   ·have hsz : (s.size : Int) < 2 := by omega
    clear h1 h2 h3 l1 l2 l3 hb
    go_enter Tryz.func208, Tryz.ntmps208
    go_wp2_with (first | (go_at_call 61; refine (typeH.out _).mono ?_; rintro e w ⟨rfl, he⟩; subst he))
    all_goals (go_ret; exact ⟨by first | rfl | (rw [hr]; rfl), Below.refl _ _⟩)
structure Env (W : World) : Prop where
 syn : ∃ te pe, W.cell? ⟨5, 0, none⟩ = some (.iface te pe)
 rng : ∃ te pe, W.cell? ⟨6, 0, none⟩ = some (.iface te pe)
 tab : Lib.TabIs Tryz.prog W "internal/strconv.uint64pow10" .u64 Lib.pow10Tab
 size : 8 ≤ W.heap.size
theorem gPow : ∃ g, Tryz.prog.globalNamed "internal/strconv.uint64pow10" = some g ∧ g < 8 := ⟨7, by kernel_rfl, by decide⟩
theorem Env.kept {W W' : World} (h : Env W) (hb : Below W.heap.size W W') : Env W' := by
 have h8 := h.size
 obtain ⟨g, hg, hlt⟩ := gPow
 refine ⟨?_, ?_, ?_, Nat.le_trans h8 hb.size⟩
 ·rw [hb.cell (p := ⟨5, 0, none⟩) (show 5 < _ by omega)]; exact h.syn
 ·rw [hb.cell (p := ⟨6, 0, none⟩) (show 6 < _ by omega)]; exact h.rng
 ·have := h.tab
  unfold Lib.TabIs World.var? at this ⊢
  rw [hg] at this ⊢
  simp only [Option.bind_some] at this ⊢
  rw [hb.block g (by omega)]; exact this
def ParsePost (l : List UInt8) (w : World) (e : Ending) (w' : World) : Prop :=
 Below w.heap.size w w' ∧ ((∃ v, Lib.parseIntB 64 l = .ok v ∧ e = .returned (.tuple #[.int .i64 v, .nilIface])) ∨ ((∀ v, Lib.parseIntB 64 l ≠ .ok v) ∧ ∃ x p, e = .returned (.tuple #[.int .i64 x, .iface 270 p])))
theorem parse_calls (s : ByteArray) (w : World) (hs : s.size ≤ 1048576) (he : Env w) : Calls Tryz.prog 256 #[.string s, .int .i64 10, .int .i64 64] w (ParsePost s.data.toList w) := by
 cases h : Lib.parseIntB 64 s.data.toList with
 | ok v =>
  refine (Tryz.strconv_ParseInt_10_at64_ok s (by omega) v h w).mono ?_
  rintro e w' ⟨rfl, rfl | ⟨t, rfl⟩⟩
  ·exact ⟨Below.refl _ _, .inl ⟨v, h, rfl⟩⟩
  ·exact ⟨Lib.bytesWorld_below _ _ _, .inl ⟨v, h, rfl⟩⟩
 | «syntax» =>
  obtain ⟨te, pe, hc⟩ := he.syn
  refine (Tryz.strconv_ParseInt_10_at64_syntax s (by omega) h _ w hc (.inr ⟨te, pe, rfl⟩)).mono ?_
  rintro e w' ⟨N, rfl, _, _, hb⟩
  exact ⟨hb, .inr ⟨(fun v hv => by rw [h] at hv; cases hv), _, _, rfl⟩⟩
 | range =>
  obtain ⟨te, pe, hc⟩ := he.rng
  refine (Tryz.strconv_ParseInt_10_at64_range s (by omega) h _ w hc (.inr ⟨te, pe, rfl⟩)).mono ?_
  rintro e w' ⟨N, rfl, _, _, hb⟩
  exact ⟨hb, .inr ⟨(fun v hv => by rw [h] at hv; cases hv), _, _, rfl⟩⟩
theorem within_calls (n m : Int) (w : World) : Calls Tryz.prog 216 #[.int .i64 n, .int .i64 m] w fun e w' => e = .returned (.bool (decide (0 ≤ n) && decide (n < m))) ∧ w' = w := by
 go_enter Tryz.func216, Tryz.ntmps216
 go_wp2
 all_goals (go_ret; refine ⟨?_, rfl⟩; first | (simp_all; done) | (simp_all; intro _; omega))
theorem format_calls (n : Int) (w : World) (h0 : 0 ≤ n) (h1 : n < 400) (he : Env w) : Calls Tryz.prog 257 #[.int .i64 n, .int .i64 10] w fun e w' => e = .returned (.string (mkS (Lib.itoa n))) ∧ Below w.heap.size w w' := by
 refine (Tryz.strconv_FormatInt_10 n (by omega) (by omega) w he.tab).mono ?_
 rintro e w' ⟨rfl, k, os, rfl⟩
 refine ⟨rfl, rfl, rfl, rfl, ?_, fun j hj => ?_⟩
 ·show w.heap.size ≤ (w.heap ++ os).size
  simp
 ·show (w.heap ++ os)[j]? = w.heap[j]?
  rw [Array.getElem?_append_left hj]
def madeL (l : List UInt8) : Bool := match l with | 33 :: d => shapeNum d | _ => false
theorem prefix33_yes (t : List UInt8) : Lib.hasPrefix (33 :: t) [33] = true := by simp [Lib.hasPrefix]
theorem prefix33_no {l : List UInt8} (h : ∀ r, l ≠ 33 :: r) : Lib.hasPrefix l [33] = false := by
 cases l with
 | nil => rfl
 | cons b r =>
  have : b ≠ 33 := fun e => h r (by rw [e])
  simp [Lib.hasPrefix, List.isPrefixOf, Ne.symm this]
theorem madeAt_calls (s : ByteArray) (w : World) (hs : s.size ≤ 1048576) (he : Env w) : Calls Tryz.prog 240 #[.string s] w fun e w' => ∃ x, e = .returned (.tuple #[.int .i64 x, .bool (madeL s.data.toList)]) ∧ Below w.heap.size w w' := by
 have hlen := toList_size s
 have heH : Hid (Env w) := he
 clear he
 by_cases hb : ∃ d, s.data.toList = 33 :: d
 ·obtain ⟨d, hd⟩ := hb
  obtain ⟨D, hD⟩ : ∃ D, D = mkS d := ⟨_, rfl⟩
  have hDs : D.size ≤ 1048576 := by
   rw [hD, ← toList_size, mkS_list]
   rw [hd] at hlen; simp at hlen; omega
  have hr : Hid (madeL s.data.toList = shapeNum d) := by show _ = _; rw [hd]; rfl
  have openH : Hid (∀ w, Calls Tryz.prog 94 #[.string s, .string ⟨#[33]⟩] w fun e w' => e = .returned (.tuple #[.string D, .bool true]) ∧ w' = w) := fun w => by
   refine (Tryz.strings_CutPrefix s ⟨#[33]⟩ w).mono ?_
   rintro e w' ⟨rfl, rfl⟩
   refine ⟨?_, rfl⟩
   rw [hd, hD, Lib.trimPrefix, prefix33_yes]
   rfl
  have hDl : D.data.toList = d := by rw [hD]; rfl
  have parseH : Hid (Calls Tryz.prog 256 #[.string D, .int .i64 10, .int .i64 64] w (ParsePost d w)) := by
   rw [← hDl]; exact parse_calls D w hDs heH.out
  have hDt : D.toList = d := by rw [ByteArray.toList_eq, hDl]
  clear hd hD hDl hDs
  go_enter Tryz.func240, Tryz.ntmps240
  go_wp2_with (first
   | (go_at_call 94; refine (openH.out _).mono ?_; rintro e w ⟨rfl, he⟩; subst he)
   | (go_at_call 256; refine parseH.out.mono ?_))
  rintro e w1 ⟨hb1, ⟨v, hp, rfl⟩ | ⟨hbad, x, p, rfl⟩⟩
  ·have hnum := shapeNum_parse hp
   by_cases hin : 0 ≤ v ∧ v < 400
   ·have hwi : (decide (0 ≤ v) && decide (v < 400)) = true := by simp [hin.1, hin.2]
    rw [hwi, Bool.true_and] at hnum
    have formH : Hid (Calls Tryz.prog 257 #[.int .i64 v, .int .i64 10] w1 fun e w' => e = .returned (.string (mkS (Lib.itoa v))) ∧ Below w1.heap.size w1 w') := format_calls v w1 hin.1 hin.2 (heH.out.kept hb1)
    have withH : Hid (∀ w, Calls Tryz.prog 216 #[.int .i64 v, .int .i64 400] w fun e w' => e = .returned (.bool true) ∧ w' = w) := fun w => by rw [← hwi]; exact within_calls v 400 w
    have hcmp : ((mkS (Lib.itoa v)).toList == D.toList) = shapeNum d := by
     rw [← hnum, hDt, ByteArray.toList_eq, mkS_list]
    clear hwi hp hnum hDt
    cases hsn : shapeNum d with
    | true =>
     rw [hsn] at hcmp hr
     go_wp2_with (first
      | (go_at_call 216; refine (withH.out _).mono ?_; rintro e w1 ⟨rfl, he⟩; subst he)
      | (go_at_call 257; refine formH.out.mono ?_; rintro e w2 ⟨rfl, hb2⟩))
     go_ret2
     exact ⟨_, by rw [hr.out]; rfl, hb1.trans (hb2.mono hb1.size)⟩
    | false =>
     rw [hsn] at hcmp hr
     go_wp2_with (first
      | (go_at_call 216; refine (withH.out _).mono ?_; rintro e w1 ⟨rfl, he⟩; subst he)
      | (go_at_call 257; refine formH.out.mono ?_; rintro e w2 ⟨rfl, hb2⟩))
     go_ret2
     exact ⟨_, by rw [hr.out]; rfl, hb1.trans (hb2.mono hb1.size)⟩
   ·have hwi : (decide (0 ≤ v) && decide (v < 400)) = false := by
     cases h1 : decide (0 ≤ v) with
     | false => rfl
     | true =>
      have := of_decide_eq_true h1
      simp; omega
    rw [hwi, Bool.false_and] at hnum
    have withH : Hid (∀ w, Calls Tryz.prog 216 #[.int .i64 v, .int .i64 400] w fun e w' => e = .returned (.bool false) ∧ w' = w) := fun w => by rw [← hwi]; exact within_calls v 400 w
    rw [← hnum] at hr
    clear hwi hp hnum hDt hin
    go_wp2_with (first
     | (go_at_call 216; refine (withH.out _).mono ?_; rintro e w1 ⟨rfl, he⟩; subst he))
    go_ret2
    exact ⟨_, by rw [hr.out]; rfl, hb1⟩
  ·have hnum := shapeNum_bad hbad
   rw [hnum] at hr
   clear hbad hnum
   go_wp2
   go_ret2
   exact ⟨_, by rw [hr.out]; rfl, hb1⟩
 ·have hr : Hid (madeL s.data.toList = false) := by
   show _ = _
   unfold madeL; split
   ·rename_i d h; exact absurd ⟨d, h⟩ hb
   ·rfl
  have openH : Hid (∀ w, Calls Tryz.prog 94 #[.string s, .string ⟨#[33]⟩] w fun e w' => e = .returned (.tuple #[.string s, .bool false]) ∧ w' = w) := fun w => by
   refine (Tryz.strings_CutPrefix s ⟨#[33]⟩ w).mono ?_
   rintro e w' ⟨rfl, rfl⟩
   refine ⟨?_, rfl⟩
   rw [Lib.trimPrefix]
   rw [show Lib.hasPrefix s.data.toList (ByteArray.mk #[33]).data.toList = false from prefix33_no (fun t h => hb ⟨t, h⟩)]
   rfl
  have parseH : Hid (Calls Tryz.prog 256 #[.string s, .int .i64 10, .int .i64 64] w (ParsePost s.data.toList w)) := parse_calls s w hs heH.out
  clear hb
  go_enter Tryz.func240, Tryz.ntmps240
  go_wp2_with (first
   | (go_at_call 94; refine (openH.out _).mono ?_; rintro e w ⟨rfl, he⟩; subst he)
   | (go_at_call 256; refine parseH.out.mono ?_))
  rintro e w1 ⟨hb1, ⟨v, hp, rfl⟩ | ⟨hbad, x, p, rfl⟩⟩
  ·clear hp
   go_wp2
   go_ret2
   exact ⟨_, by rw [hr.out]; rfl, hb1⟩
  ·clear hbad
   go_wp2
   go_ret2
   exact ⟨_, by rw [hr.out]; rfl, hb1⟩
theorem shapeL_made (l : List UInt8) : shapeL l = (l == [48] || l == [45] || l == [33, 33] || madeL l || typeL l) := by
 unfold shapeL madeL
 cases (l == [48] || l == [45] || l == [33, 33]) <;> simp [Bool.or_comm]
theorem implShape_calls (s : ByteArray) (w : World) (hs : s.size ≤ 1048576) (he : Env w) : Calls Tryz.prog 217 #[.string s] w fun e w' => e = .returned (.bool (shapeL s.data.toList)) ∧ Below w.heap.size w w' := by
 have hsl := shapeL_made s.data.toList
 have typeH : Hid (∀ w, Calls Tryz.prog 179 #[.string s] w fun e w' => e = .returned (.bool (typeL s.data.toList)) ∧ Below w.heap.size w w') := fun w => implType_calls s w (by omega)
 have madeH : Hid (Calls Tryz.prog 240 #[.string s] w fun e w' => ∃ x, e = .returned (.tuple #[.int .i64 x, .bool (madeL s.data.toList)]) ∧ Below w.heap.size w w') := madeAt_calls s w hs he
 have hsH : Hid (shapeL s.data.toList = (s.toList == [48] || s.toList == [45] || s.toList == [33, 33] || madeL s.data.toList || typeL s.data.toList)) := by
  show _ = _; rw [hsl, ByteArray.toList_eq]
 clear he hsl
 generalize shapeL s.data.toList = r at *
 generalize madeL s.data.toList = md at *
 generalize typeL s.data.toList = ty at *
 cases e1 : (s.toList == [48]) with
 | true =>
  have hr : r = true := by rw [hsH.out, e1]; simp
  go_enter Tryz.func217, Tryz.ntmps217
  go_wp2
  all_goals (go_ret; exact ⟨by first | rfl | (rw [hr]; rfl), Below.refl _ _⟩)
 | false =>
  cases e2 : (s.toList == [45]) with
  | true =>
   have hr : r = true := by rw [hsH.out, e1, e2]; simp
   go_enter Tryz.func217, Tryz.ntmps217
   go_wp2
   all_goals (go_ret; exact ⟨by first | rfl | (rw [hr]; rfl), Below.refl _ _⟩)
  | false =>
   cases e3 : (s.toList == [33, 33]) with
   | true =>
    have hr : r = true := by rw [hsH.out, e1, e2, e3]; simp
    go_enter Tryz.func217, Tryz.ntmps217
    go_wp2
    all_goals (go_ret; exact ⟨by first | rfl | (rw [hr]; rfl), Below.refl _ _⟩)
   | false =>
    have hr : r = (md || ty) := by rw [hsH.out, e1, e2, e3]; simp
    clear hsH
    cases md with
    | true =>
     go_enter Tryz.func217, Tryz.ntmps217
     go_wp2_with (first
      | (go_at_call 240; refine madeH.out.mono ?_; rintro e w1 ⟨x, rfl, hb1⟩)
      | (go_at_call 179; refine (typeH.out _).mono ?_; rintro e w2 ⟨rfl, hb2⟩))
     go_ret
     exact ⟨by first | rfl | (rw [hr]; rfl), hb1⟩
    | false =>
     go_enter Tryz.func217, Tryz.ntmps217
     go_wp2_with (first
      | (go_at_call 240; refine madeH.out.mono ?_; rintro e w1 ⟨x, rfl, hb1⟩)
      | (go_at_call 179; refine (typeH.out _).mono ?_; rintro e w2 ⟨rfl, hb2⟩))
     go_ret
     exact ⟨by first | rfl | (rw [hr]; simp), hb1.trans (hb2.mono hb1.size)⟩
end Go.Proofs.YtjjccimeikkogaaGreatDoor.Sh
