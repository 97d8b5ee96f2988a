/- The library contract of strconv.FormatInt, laid at this program. -/
import Derived.Shelf.Small.Wraps
import Derived.Shelf.Strconv.Itoa0
import Derived.Shelf.Strconv.Itoa1
import Derived.Shelf.LaysM
import Derived.Shelf.Strconv.Itoa2
import Derived.Shelf.Strconv.Itoa3
import Derived.Shelf.Strconv.Itoa4
import Derived.Shelf.Strconv.ParseIntEmpty
import Derived.Shelf.Strconv.Clone
import Derived.Shelf.Strconv.SyntaxError
import Derived.Shelf.LaysC
import Derived.Shelf.Strconv.ToError
import Derived.Shelf.Strconv.Lower
import Derived.Shelf.Strconv.ParseUint10
import Derived.Shelf.Strconv.ParseUint10Empty
import Derived.Shelf.Strconv.ParseUint10Any
import Derived.Shelf.Strconv.ParseInt10
import Derived.Shelf.Strconv.RangeError
import Derived.Shelf.Strconv.ToErrorRange
import Derived.Shelf.Strconv.ParseUintEmpty
import Derived.Shelf.Strconv.ParseUint10b64
import Derived.Shelf.Strconv.ParseUint10b32
import Derived.Shelf.Strconv.ParseUint10b16
import Derived.Shelf.Strconv.ParseUint10b8
import Derived.Shelf.Strconv.ParseUint10At
import Derived.Shelf.Strconv.ParseInt10At64
import Derived.Shelf.Strconv.ParseInt10At32
import Derived.Shelf.Strconv.ParseInt10At16
import Derived.Shelf.Strconv.ParseInt10At8
import Derived.Shelf.Strconv.ParseInt10All
import Derived.Shelf.Strconv.ParseIntPublic10
import Derived.Shelf.Strconv.ErrVarParseInt
import Derived.Shelf.Strings.Search1
import Derived.Shelf.Strings.Search2
import Derived.Shelf.Strings.Cut
import Derived.Shelf.Strings.Shaped
import Derived.Shelf.Strings.Prefix
import Derived.Test.YtcencddbdidjjaaGreatDoorProg
import Derived.Test.YtcencddbdidjjaaGreatDoorDec
import Derived.Test.YtcencddbdidjjaaGreatDoorInsD
import Derived.Lib.LaidTab
namespace Go.Proofs
open Go.Shelf
def Tryz.laysM173_ren : Go.Shelf.Ren := ⟨fun | 173 => 98 | 246 => 116 | 283 => 126 | 284 => 127 | 285 => 128 | 286 => 129 | 129 => 136 | 317 => 135 | 318 => 137 | 319 => 138 | 320 => 139 | 337 => 146 | 338 => 147 | n => n, fun | 2 => 2 | 3 => 3 | 9 => 9 | 4 => 4 | 171 => 134 | 0 => 0 | 53 => 69 | 37 => 70 | 5 => 5 | 173 => 137 | 212 => 144 | 51 => 145 | 20 => 20 | 213 => 146 | 46 => 59 | 232 => 156 | 233 => 157 | n => n, fun | 17 => 2 | 18 => 5 | 19 => 6 | n => n⟩
theorem Tryz.laysM173 : Go.Proofs.LaysM.n173 Tryz.prog Tryz.laysM173_ren := {
  mixed := by kernel_rfl
  f129 := Tryz.func136.trans (congrArg some (by kernel_rfl))
  f173 := Tryz.func98.trans (congrArg some (by kernel_rfl))
  f246 := Tryz.func116.trans (congrArg some (by kernel_rfl))
  f283 := Tryz.func126.trans (congrArg some (by kernel_rfl))
  f284 := Tryz.func127.trans (congrArg some (by kernel_rfl))
  f285 := Tryz.func128.trans (congrArg some (by kernel_rfl))
  f286 := Tryz.func129.trans (congrArg some (by kernel_rfl))
  f317 := Tryz.func135.trans (congrArg some (by kernel_rfl))
  f318 := Tryz.func137.trans (congrArg some (by kernel_rfl))
  f319 := Tryz.func138.trans (congrArg some (by kernel_rfl))
  f320 := Tryz.func139.trans (congrArg some (by kernel_rfl))
  f337 := Tryz.func146.trans (congrArg some (by kernel_rfl))
  f338 := Tryz.func147.trans (congrArg some (by kernel_rfl))
  t0 := Tryz.underlying0
  a0 := Tryz.isAgg0
  z0 := Tryz.sizeOf0
  v0 := Tryz.zeroValue0
  t2 := Tryz.underlying2
  a2 := Tryz.isAgg2
  z2 := Tryz.sizeOf2
  v2 := Tryz.zeroValue2
  t3 := Tryz.underlying3
  a3 := Tryz.isAgg3
  z3 := Tryz.sizeOf3
  v3 := Tryz.zeroValue3
  t4 := Tryz.underlying4
  a4 := Tryz.isAgg4
  z4 := Tryz.sizeOf4
  v4 := Tryz.zeroValue4
  t5 := Tryz.underlying5
  a5 := Tryz.isAgg5
  z5 := Tryz.sizeOf5
  v5 := Tryz.zeroValue5
  t9 := Tryz.underlying9
  a9 := Tryz.isAgg9
  z9 := Tryz.sizeOf9
  v9 := Tryz.zeroValue9
  t20 := Tryz.underlying20
  a20 := Tryz.isAgg20
  z20 := Tryz.sizeOf20
  v20 := Tryz.zeroValue20
  t37 := Tryz.underlying70
  a37 := Tryz.isAgg70
  z37 := Tryz.sizeOf70
  v37 := Tryz.zeroValue70
  t46 := Tryz.underlying59
  a46 := Tryz.isAgg59
  z46 := Tryz.sizeOf59
  v46 := Tryz.zeroValue59
  t51 := Tryz.underlying145
  a51 := Tryz.isAgg145
  z51 := Tryz.sizeOf145
  v51 := Tryz.zeroValue145
  t53 := Tryz.underlying69
  a53 := Tryz.isAgg69
  z53 := Tryz.sizeOf69
  v53 := Tryz.zeroValue69
  t171 := Tryz.underlying134
  a171 := Tryz.isAgg134
  z171 := Tryz.sizeOf134
  v171 := Tryz.zeroValue134
  t173 := Tryz.underlying137
  a173 := Tryz.isAgg137
  z173 := Tryz.sizeOf137
  v173 := Tryz.zeroValue137
  t212 := Tryz.underlying144
  a212 := Tryz.isAgg144
  z212 := Tryz.sizeOf144
  v212 := Tryz.zeroValue144
  t213 := Tryz.underlying146
  a213 := Tryz.isAgg146
  z213 := Tryz.sizeOf146
  t232 := Tryz.underlying156
  a232 := Tryz.isAgg156
  z232 := Tryz.sizeOf156
  v232 := Tryz.zeroValue156
  t233 := Tryz.underlying157
  a233 := Tryz.isAgg157
  z233 := Tryz.sizeOf157
  v233 := Tryz.zeroValue157
  g17 := by kernel_rfl
  g18 := by kernel_rfl
  g19 := by kernel_rfl
  i0 := by kernel_rfl
  i2 := by kernel_rfl
  i3 := by kernel_rfl
  i4 := by kernel_rfl
  i5 := by kernel_rfl
  i9 := by kernel_rfl
  i20 := by kernel_rfl
  i37 := by kernel_rfl
  i46 := by kernel_rfl
  i51 := by kernel_rfl
  i53 := by kernel_rfl
  i171 := by kernel_rfl
  i173 := by kernel_rfl
  i212 := by kernel_rfl
  i232 := by kernel_rfl
  i233 := by kernel_rfl
  m17 := by kernel_rfl
  m18 := by kernel_rfl
  m19 := by kernel_rfl }
open Go.RowKit Go.Sort Go.Lib in
theorem Tryz.strconv_FormatInt_10 (n : Int) (h0 : -9223372036854775808 ≤ n) (h1 : n ≤ 9223372036854775807) (w : World) (htab : Lib.TabIs Tryz.prog w "internal/strconv.uint64pow10" .u64 Lib.pow10Tab) :
    Calls Tryz.prog 98 #[.int .i64 n, .int .i64 10] w fun e w' => e = .returned (.string ⟨(Lib.itoa n).toArray⟩) ∧ ∃ k os, w' = grow (w.drewN k) os := Any.strconv_FormatInt_10 Tryz.laysM173 n h0 h1 w htab
end Go.Proofs

/- impl.ShowFloat: what it answers at any bits. -/
namespace Go.Proofs.YtcencddbdidjjaaGreatDoor
set_option linter.unusedVariables false
open Go.ChangeShapes Go.WideShapes Go.ChangeAt Go.RowKit

theorem isInfUp_calls (b : Nat) (w : World) : Calls Tryz.prog 96 #[.float .f64 b, .int .i64 1] w fun e w' => e = .returned (.bool (FloatKind.f64.format.order b 9218868437227405311 == some .gt)) ∧ w' = w := by
  go_enter Tryz.func96, Tryz.ntmps96
  go_wp2
  go_ret
  exact ⟨rfl, rfl⟩
theorem run_negf (b : Nat) (w : World) : (Op.unary .neg (.float .f64 b)).run Tryz.prog w = .ok (.float .f64 (Op.negFloat .f64 b)) w := rfl
theorem isInfDown_calls (b : Nat) (w : World) : Calls Tryz.prog 96 #[.float .f64 b, .int .i64 (-1)] w fun e w' => e = .returned (.bool (FloatKind.f64.format.order (Op.negFloat .f64 b) 9218868437227405311 == some .gt)) ∧ w' = w := by
  have hn := run_negf b
  go_enter Tryz.func96, Tryz.ntmps96
  go_wp2
  go_ret
  exact ⟨rfl, rfl⟩

/-- lowNoughts: the number of twos in m, m not 0 and below 2^53. -/
theorem and_one (n : Int) : bits .and .i64 n 1 = n % 2 := and_mask n 1 (by decide)
theorem mod_step {m n : Nat} (h : m % 2 ^ n = 0) (h2 : m / 2 ^ n % 2 = 0) : m % 2 ^ (n + 1) = 0 := by
  rw [Nat.pow_succ, Nat.mod_mul, h, h2]; simp
set_option maxRecDepth 1000000 in
theorem low_calls (m : Nat) (w : World) (h0 : m ≠ 0) (hm : m < 9007199254740992) : Calls Tryz.prog 115 #[.int .i64 m] w fun e w' => ∃ n : Nat, e = .returned (.int .i64 n) ∧ n ≤ 52 ∧ m % 2 ^ n = 0 ∧ m / 2 ^ n % 2 = 1 ∧ w' = w := by
  have hmH : Hid (m < 9007199254740992) := hm
  clear hm
  go_enter Tryz.func115, Tryz.ntmps115
  go_wp2
  go_loop [4] (fun v => ∃ n : Nat, v = .int .i64 n ∧ n ≤ 53 ∧ Hid (m % 2 ^ n = 0)) (fun v => 53 - (intOf v).toNat)
  case atStart => exact ⟨0, rfl, by omega, by simp [Hid, Nat.mod_one]⟩
  case round =>
    obtain ⟨n, rfl, hn, hmod⟩ := hrel
    by_cases hlt : n < 53
    · have hlt1 : (n : Int) < 53 := by omega
      have ha := and_one
      have hcast : ((m / 2 ^ n % 2 : Nat) : Int) = (m : Int) / 2 ^ n % 2 := by push_cast; rfl
      by_cases hodd : m / 2 ^ n % 2 = 1
      · have hb : ((m : Int) / 2 ^ n % 2 == 1) = true := by rw [← hcast, hodd]; rfl
        have hoH : Hid (m / 2 ^ n % 2 = 1) := hodd
        clear hcast hodd
        go_wp2
        go_ret
        exact ⟨n, rfl, by omega, hmod.out, hoH.out, rfl⟩
      · have hb : ((m : Int) / 2 ^ n % 2 == 1) = false := by
          rw [← hcast, beq_eq_false_iff_ne]; omega
        have hmod2 : Hid (m % 2 ^ (n + 1) = 0) := mod_step hmod.out (by omega)
        clear hcast hodd hmod
        go_wp2
        go_round
        case rel => exact ⟨n + 1, by simp, by omega, hmod2⟩
        case measure => first | (simp [intOf]; done) | (simp [intOf]; omega)
    · exfalso
      obtain rfl : n = 53 := by omega
      have := hmod.out
      have h2 : m % 9007199254740992 = 0 := this
      have := hmH.out
      omega

theorem strip_low : ∀ (n m : Nat) (e : Int), m % 2 ^ n = 0 → m / 2 ^ n % 2 = 1 → strip m e = (m / 2 ^ n, e + n) := by
  intro n
  induction n with
  | zero => intro m e _ h; simp at h; rw [strip_odd (by omega)]; simp
  | succ n ih =>
    intro m e h1 h2
    have hev : m % 2 = 0 := by
      have : 2 ∣ m := Nat.dvd_trans ⟨2 ^ n, by rw [Nat.pow_succ, Nat.mul_comm]⟩ (Nat.dvd_of_mod_eq_zero h1)
      exact Nat.mod_eq_zero_of_dvd this
    have h0 : m ≠ 0 := by rintro rfl; simp at h2
    have e1 : m / 2 / 2 ^ n = m / 2 ^ (n + 1) := by rw [Nat.div_div_eq_div_mul, Nat.pow_succ, Nat.mul_comm]
    have e2 : m / 2 % 2 ^ n = 0 := by
      obtain ⟨k, hk⟩ := Nat.dvd_of_mod_eq_zero h1
      rw [hk, Nat.pow_succ, Nat.mul_comm (2 ^ n) 2, Nat.mul_assoc, Nat.mul_div_cancel_left _ (by decide)]
      simp
    rw [strip_even hev h0, ih (m / 2) (e + 1) e2 (by rw [e1]; exact h2), e1]
    congr 1; push_cast; omega
theorem or_top (f : Int) (h0 : 0 ≤ f) (h1 : f < 4503599627370496) : bits .or .i64 f 4503599627370496 = f + 4503599627370496 := by
  obtain ⟨n, rfl⟩ : ∃ n : Nat, f = n := ⟨f.toNat, by omega⟩
  show IntKind.i64.wrap ((BitVec.ofInt 64 (n : Int) ||| BitVec.ofInt 64 4503599627370496).toNat) = _
  have e1 : (BitVec.ofInt 64 (n : Int)).toNat = n := by rw [BitVec.ofInt_natCast, BitVec.toNat_ofNat]; exact Nat.mod_eq_of_lt (by omega)
  have e2 : (BitVec.ofInt 64 (4503599627370496 : Int)).toNat = 2 ^ 52 := by decide
  have h := Nat.two_pow_add_eq_or_of_lt (i := 52) (b := n) (by omega) 1
  rw [Nat.mul_one] at h
  rw [wrap_i64, BitVec.toNat_or, e1, e2, Nat.or_comm, ← h]
  have h3 : (2 : Nat) ^ 52 = 4503599627370496 := by decide
  rw [h3]
  rw [show ((4503599627370496 + n : Nat) : Int) = (n : Int) + 4503599627370496 by omega]
  exact wrap64_id _ (by omega) (by omega)

/-- The odd part and the power, as impl.oddAndPower gives them. -/
def oddL (a : Int) : Nat × Int := if openM a = 0 then (0, 0) else strip (openM a).toNat (openE a)
set_option maxRecDepth 1000000 in
set_option maxHeartbeats 1000000 in
theorem odd_calls (a : Int) (w : World) (hk : openK a ≠ 2047) : Calls Tryz.prog 97 #[.int .i64 a] w fun e w' => e = .returned (.tuple #[.int .i64 (oddL a).1, .int .i64 (oddL a).2]) ∧ w' = w := by
  have k1 := and_K a
  have k2 := and_F a
  have hK0 : 0 ≤ openK a ∧ openK a < 2048 := by unfold openK; omega
  have hF0 : 0 ≤ openF a ∧ openF a < 4503599627370496 := by unfold openF; omega
  obtain ⟨hMl, hMh⟩ := openM_bound a
  have hor := or_top (openF a) hF0.1 hF0.2
  have hE : Hid (openE a = max (openK a) 1 - 1075) := by
    show _ = _
    unfold openE; rw [if_neg hk]; split <;> omega
  have hMdef : Hid (openM a = if 0 < openK a then openF a + 4503599627370496 else openF a) := by
    show _ = _
    unfold openM; rw [if_neg hk]
    by_cases h : openK a = 0
    · rw [if_pos h, if_neg (by omega)]
    · rw [if_neg h, if_pos (by omega)]
  by_cases hM0 : openM a = 0
  · have hKz : openK a = 0 := by
      have := hMdef.out
      rw [hM0] at this
      split at this <;> omega
    have hFz : openF a = 0 := by
      have := hMdef.out
      rw [hM0, if_neg (by omega)] at this; omega
    have hr : oddL a = (0, 0) := by unfold oddL; rw [if_pos hM0]
    rw [hr]
    rw [hKz] at k1
    rw [hFz] at k2
    clear hor hE hMdef hMl hMh hK0 hF0 hk hM0 hKz hFz hr
    go_enter Tryz.func97, Tryz.ntmps97
    go_wp2
    go_ret2
    exact ⟨rfl, rfl⟩
  obtain ⟨M, hM⟩ : ∃ M : Nat, openM a = M := ⟨(openM a).toNat, by omega⟩
  have hr : oddL a = strip M (openE a) := by unfold oddL; rw [if_neg hM0, hM]; rfl
  have hM1 : M ≠ 0 := by rintro rfl; exact hM0 hM
  have hMb : M < 9007199254740992 := by omega
  have lowH : Hid (∀ w, Calls Tryz.prog 115 #[.int .i64 M] w fun e w' => ∃ n : Nat, e = .returned (.int .i64 n) ∧ n ≤ 52 ∧ strip M (openE a) = (M / 2 ^ n, max (openK a) 1 - 1075 + n) ∧ w' = w) := fun w => by
    refine (low_calls M w hM1 hMb).mono ?_
    rintro e w' ⟨n, rfl, hn, h1, h2, rfl⟩
    exact ⟨n, rfl, hn, by rw [strip_low n M _ h1 h2, hE.out], rfl⟩
  rw [hr]
  have hMne : ((M : Int) == 0) = false := by simpa using hM1
  by_cases hKp : 0 < openK a
  · have hor2 : bits .or .i64 (openF a) 4503599627370496 = (M : Int) := by rw [hor, ← hM, hMdef.out, if_pos hKp]
    have hmax : max (openK a) 1 = openK a := by omega
    rw [hmax] at lowH
    obtain ⟨K, hKe⟩ : ∃ K, openK a = K := ⟨_, rfl⟩
    rw [hKe] at k1 lowH hKp hK0
    obtain ⟨hK1, hK2⟩ := hK0
    clear hor hE hMdef hMl hMh hk hM0 hM hr hMb hmax hKe hM1 hF0
    go_enter Tryz.func97, Tryz.ntmps97
    go_wp2_with (go_at_call 115; refine (lowH.out _).mono ?_; rintro e w1 ⟨n, rfl, hn, hst, he⟩; subst he; have hstH : Hid (_ = _) := hst; clear hst)
    go_ret2
    refine ⟨?_, rfl⟩
    rw [hstH.out]
    simp <;> omega
  · have hKz : openK a = 0 := by omega
    have hF2 : openF a = (M : Int) := by rw [← hM, hMdef.out, if_neg hKp]
    have hmax : max (openK a) 1 = 1 := by omega
    rw [hmax] at lowH
    rw [hKz] at k1
    rw [hF2] at k2
    clear hor hE hMdef hMl hMh hk hM0 hM hr hMb hmax hM1 hF0 hK0 hKp hKz hF2
    go_enter Tryz.func97, Tryz.ntmps97
    go_wp2_with (go_at_call 115; refine (lowH.out _).mono ?_; rintro e w1 ⟨n, rfl, hn, hst, he⟩; subst he; have hstH : Hid (_ = _) := hst; clear hst)
    go_ret2
    refine ⟨?_, rfl⟩
    rw [hstH.out]
    simp <;> omega
end Go.Proofs.YtcencddbdidjjaaGreatDoor

/- impl.ShowFloat: what it answers at any bits of 64. -/
namespace Go.Proofs.YtcencddbdidjjaaGreatDoor
set_option linter.unusedVariables false
open Go.ChangeShapes Go.WideShapes Go.ChangeAt Go.RowKit

/-- What the walk needs of the library's variables: a table. -/
structure Env (W : World) : Prop where
  tab : Lib.TabIs Tryz.prog W "internal/strconv.uint64pow10" .u64 Lib.pow10Tab
theorem Env.kept {W W' : World} (h : Env W) (hb : Below W.heap.size W W') : Env W' := by
  obtain ⟨g, hg⟩ : ∃ g, Tryz.prog.globalNamed "internal/strconv.uint64pow10" = some g := Option.isSome_iff_exists.1 (by kernel_rfl)
  have := h.tab
  refine ⟨?_⟩
  unfold Lib.TabIs World.var? at this ⊢
  rw [hg] at this ⊢
  simp only [Option.bind_some] at this ⊢
  have hlt : g < W.heap.size := by
    rcases Nat.lt_or_ge g W.heap.size with h' | h'
    · exact h'
    · rw [Array.getElem?_eq_none h'] at this; cases this
  rw [hb.block g hlt]; exact this
theorem format_calls (n : Int) (w : World) (h : Bd n) (he : Env w) : Calls Tryz.prog 98 #[.int .i64 n, .int .i64 10] w fun e w' => e = .returned (.string (FN n)) ∧ Below w.heap.size w w' := by
  have h0 := h.lo
  have h1 := h.hi
  refine (Tryz.strconv_FormatInt_10 n (by omega) (by omega) w he.tab).mono ?_
  rintro e w' ⟨rfl, k, os, rfl⟩
  refine ⟨rfl, rfl, rfl, rfl, ?_, fun j hj => ?_⟩
  · show w.heap.size ≤ (w.heap ++ os).size
    simp
  · show (w.heap ++ os)[j]? = w.heap[j]?
    rw [Array.getElem?_append_left hj]

theorem neg_word (s : Bool) (r : Nat) (h : r < 9223372036854775808) : Op.negFloat .f64 (Ieee.double.word s r) = Ieee.double.word (!s) r := by
  have e : (2 : Nat) ^ (FloatKind.f64.format.exponentBits + FloatKind.f64.format.fractionBits) = 2 ^ 63 := rfl
  unfold Op.negFloat
  rw [e]
  unfold Ieee.Format.word
  rw [sign_d]
  have h63 : (9223372036854775808 : Nat) = 2 ^ 63 := by decide
  have hl : r < 2 ^ 63 := by omega
  have ho := Nat.two_pow_add_eq_or_of_lt (i := 63) (b := r) hl 1
  rw [Nat.mul_one] at ho
  have hx : r ^^^ 2 ^ 63 = 2 ^ 63 + r := by
    rw [ho]
    apply Nat.eq_of_testBit_eq
    intro i
    rw [Nat.testBit_xor, Nat.testBit_or, Nat.testBit_two_pow]
    by_cases hi : 63 = i
    · subst hi; rw [Nat.testBit_lt_two_pow hl]; simp
    · simp [hi]
  cases s
  · simp only [Bool.false_eq_true, if_false, Bool.not_false, if_true]
    rw [hx, h63]
  · simp only [if_true, Bool.not_true, Bool.false_eq_true, if_false]
    rw [h63, ← hx, Nat.xor_assoc, Nat.xor_self, Nat.xor_zero]

theorem key_top : (9218868437227405311 : Nat) = Ieee.double.word false 9218868437227405311 := by kernel_rfl
theorem openC_inf (a : Int) : openC a = 1 ↔ rung a = 9218868437227405312 := by
  have := rung_parts a
  unfold openC
  have hK : 0 ≤ openK a ∧ openK a < 2048 := by unfold openK; omega
  have hF : 0 ≤ openF a ∧ openF a < 4503599627370496 := by unfold openF; omega
  constructor
  · intro h
    split at h
    · split at h
      · omega
      · simp at h
    · simp at h
  · intro h
    rw [if_pos (by omega), if_pos (by omega)]
theorem openC_vals (a : Int) : openC a = 0 ∨ openC a = 1 ∨ openC a = 2 := by
  unfold openC; split
  · split <;> simp
  · simp
theorem openC_zero {a : Int} (h1 : openC a ≠ 1) (h2 : openC a ≠ 2) : openK a ≠ 2047 := by
  intro h; unfold openC at h1 h2
  rw [if_pos h] at h1 h2
  by_cases hf : openF a = 0
  · rw [if_pos hf] at h1; exact h1 rfl
  · rw [if_neg hf] at h2; exact h2 rfl

/-- The three questions that ShowFloat asks of the float. -/
theorem ask_nan (a : Int) (h1 : -9223372036854775808 ≤ a) (h2 : a < 9223372036854775808) : (FloatKind.f64.format.order (IntKind.u64.wrap a).toNat (IntKind.u64.wrap a).toNat != some .eq) = decide (openC a = 2) := by
  rw [order_bits a a h1 h2 h1 h2]
  by_cases h : isNo a
  · rw [if_pos (.inl h)]; simp [(class_no a).2 h]
  · rw [if_neg (by simpa using h)]
    have : ¬ openC a = 2 := fun e => h ((class_no a).1 e)
    simp [this]
theorem ask_up (a : Int) (h1 : -9223372036854775808 ≤ a) (h2 : a < 9223372036854775808) (hn : openC a ≠ 2) : (FloatKind.f64.format.order (IntKind.u64.wrap a).toNat 9218868437227405311 == some .gt) = (decide (openC a = 1) && decide (0 ≤ a)) := by
  have hno : ¬ isNo a := fun e => hn ((class_no a).2 e)
  have hno' : ¬ 9218868437227405312 < rung a := hno
  show (Ieee.double.order (IntKind.u64.wrap a).toNat 9218868437227405311 == some .gt) = _
  rw [word_of a h1 h2, key_top, order_words _ _ _ _ (rung_lt a) (by decide), if_neg (by simp; omega)]
  by_cases ha : a < 0
  · rw [compare_lt (by simp [sg, ha]; omega)]
    have : ¬ 0 ≤ a := by omega
    simp [this]
  · have h0 : 0 ≤ a := by omega
    by_cases hc : openC a = 1
    · have hr := (openC_inf a).1 hc
      rw [compare_gt (by simp [sg, ha, hr])]
      simp [hc, h0]
    · have hr : rung a ≠ 9218868437227405312 := fun e => hc ((openC_inf a).2 e)
      have : (compare (sg (decide (a < 0)) (rung a)) (sg false 9218868437227405311) == Ordering.gt) = false := by
        rcases Nat.lt_or_ge (rung a) 9218868437227405311 with hl | hl
        · rw [compare_lt (by simp [sg, ha]; omega)]; rfl
        · rw [compare_eq (by simp [sg, ha]; omega)]; rfl
      simp [hc]
      simpa using this
theorem ask_down (a : Int) (h1 : -9223372036854775808 ≤ a) (h2 : a < 9223372036854775808) (hn : openC a ≠ 2) : (FloatKind.f64.format.order (Op.negFloat .f64 (IntKind.u64.wrap a).toNat) 9218868437227405311 == some .gt) = (decide (openC a = 1) && decide (a < 0)) := by
  have hno : ¬ isNo a := fun e => hn ((class_no a).2 e)
  have hno' : ¬ 9218868437227405312 < rung a := hno
  show (Ieee.double.order (Op.negFloat .f64 (IntKind.u64.wrap a).toNat) 9218868437227405311 == some .gt) = _
  rw [word_of a h1 h2, neg_word _ _ (rung_lt a), key_top, order_words _ _ _ _ (rung_lt a) (by decide), if_neg (by simp; omega)]
  by_cases ha : a < 0
  · by_cases hc : openC a = 1
    · have hr := (openC_inf a).1 hc
      rw [compare_gt (by simp [sg, ha, hr])]
      simp [hc, ha]
    · have hr : rung a ≠ 9218868437227405312 := fun e => hc ((openC_inf a).2 e)
      have : (compare (sg (!decide (a < 0)) (rung a)) (sg false 9218868437227405311) == Ordering.gt) = false := by
        rcases Nat.lt_or_ge (rung a) 9218868437227405311 with hl | hl
        · rw [compare_lt (by simp [sg, ha]; omega)]; rfl
        · rw [compare_eq (by simp [sg, ha]; omega)]; rfl
      simp [hc]
      simpa using this
  · rw [compare_lt (by simp [sg, ha]; omega)]
    simp [ha]

theorem strip_le : ∀ (n m : Nat) (e : Int), m ≤ n → (strip m e).1 ≤ m ∧ e ≤ (strip m e).2 ∧ (strip m e).2 ≤ e + m := by
  intro n
  induction n with
  | zero =>
    intro m e h
    obtain rfl : m = 0 := by omega
    rw [strip, dif_neg (by simp)]; simp
  | succ n ih =>
    intro m e h
    by_cases hev : m % 2 = 0 ∧ m ≠ 0
    · rw [strip_even hev.1 hev.2]
      have := ih (m / 2) (e + 1) (by omega)
      omega
    · rw [strip, dif_neg hev]; simp; omega
theorem odd_bound (a : Int) : Bd ((oddL a).1 : Int) ∧ Bd (oddL a).2 := by
  obtain ⟨b1, b2⟩ := openM_bound a
  obtain ⟨b3, b4⟩ := openE_bound a
  unfold oddL
  split
  · exact ⟨⟨by simp, by simp⟩, ⟨by simp, by simp⟩⟩
  · have := strip_le _ (openM a).toNat (openE a) (Nat.le_refl _)
    exact ⟨⟨by omega, by omega⟩, ⟨by omega, by omega⟩⟩
theorem show_odd {a : Int} (c1 : openC a ≠ 1) (c2 : openC a ≠ 2) : showL a = ((sgn a ++ Lib.decDigits (oddL a).1) ++ [112]) ++ Lib.itoa (oddL a).2 := by
  unfold showL oddL
  rw [if_neg c2, if_neg c1]
  split
  · have h0 : Lib.decDigits 0 = [48] := by rw [Lib.decDigits, dif_pos (by omega)]; rfl
    have h1 : Lib.itoa 0 = [48] := by rw [Lib.itoa, if_neg (by omega)]; exact h0
    rw [h0, h1]; simp
  · simp [showNum]

set_option maxRecDepth 1000000 in
set_option maxHeartbeats 2000000 in
theorem implShow_calls (a : Int) (w : World) (h1 : -9223372036854775808 ≤ a) (h2 : a < 9223372036854775808) (he : Env w) : Calls Tryz.prog 70 #[.int .i64 a] w fun e w' => e = .returned (.string (mkS (showL a))) ∧ Below w.heap.size w w' := by
  have heH : Hid (Env w) := he
  clear he
  have fH : Hid (∀ w, Calls Tryz.prog 82 #[.int .i64 a] w fun e w' => e = .returned (.float .f64 (IntKind.u64.wrap a).toNat) ∧ w' = w) := fun w => floatOf_calls a w
  have nanH : Hid (∀ w, Calls Tryz.prog 95 #[.float .f64 (IntKind.u64.wrap a).toNat] w fun e w' => e = .returned (.bool (decide (openC a = 2))) ∧ w' = w) := fun w => by
    rw [← ask_nan a h1 h2]; exact isNaN_calls _ w
  have upH : Hid (openC a ≠ 2 → ∀ w, Calls Tryz.prog 96 #[.float .f64 (IntKind.u64.wrap a).toNat, .int .i64 1] w fun e w' => e = .returned (.bool (decide (openC a = 1) && decide (0 ≤ a))) ∧ w' = w) := fun hn w => by
    rw [← ask_up a h1 h2 hn]; exact isInfUp_calls _ w
  have downH : Hid (openC a ≠ 2 → ∀ w, Calls Tryz.prog 96 #[.float .f64 (IntKind.u64.wrap a).toNat, .int .i64 (-1)] w fun e w' => e = .returned (.bool (decide (openC a = 1) && decide (a < 0))) ∧ w' = w) := fun hn w => by
    rw [← ask_down a h1 h2 hn]; exact isInfDown_calls _ w
  generalize (IntKind.u64.wrap a).toNat = A at *
  clear h1 h2
  by_cases c2 : openC a = 2
  · have hr : showL a = [110, 97, 110] := by unfold showL; rw [if_pos c2]
    have nanH2 : Hid (∀ w, Calls Tryz.prog 95 #[.float .f64 A] w fun e w' => e = .returned (.bool true) ∧ w' = w) := by simpa [c2] using nanH
    clear nanH upH downH c2
    go_enter Tryz.func70, Tryz.ntmps70
    go_wp2_with (first
      | (go_at_call 82; refine (fH.out _).mono ?_; rintro e w ⟨rfl, he⟩; subst he)
      | (go_at_call 95; refine (nanH2.out _).mono ?_; rintro e w ⟨rfl, he⟩; subst he))
    go_ret
    exact ⟨by rw [hr]; rfl, Below.refl _ _⟩
  have nanH2 : Hid (∀ w, Calls Tryz.prog 95 #[.float .f64 A] w fun e w' => e = .returned (.bool false) ∧ w' = w) := by simpa [c2] using nanH
  have upH2 := upH.out c2
  have downH2 := downH.out c2
  clear nanH upH downH
  by_cases c1 : openC a = 1
  · have hr : showL a = sgn a ++ [105, 110, 102] := by unfold showL; rw [if_neg c2, if_pos c1]
    by_cases hneg : a < 0
    · have hs : sgn a = [45] := by unfold sgn; rw [if_pos hneg]
      have hd : decide (0 ≤ a) = false := decide_eq_false (by omega)
      have upH3 : Hid (∀ w, Calls Tryz.prog 96 #[.float .f64 A, .int .i64 1] w fun e w' => e = .returned (.bool false) ∧ w' = w) := fun w => by simpa [c1, hd] using upH2 w
      have downH3 : Hid (∀ w, Calls Tryz.prog 96 #[.float .f64 A, .int .i64 (-1)] w fun e w' => e = .returned (.bool true) ∧ w' = w) := fun w => by simpa [c1, hneg] using downH2 w
      clear upH2 downH2 c1 c2 hd
      go_enter Tryz.func70, Tryz.ntmps70
      go_wp2_with (first
        | (go_at_call 82; refine (fH.out _).mono ?_; rintro e w ⟨rfl, he⟩; subst he)
        | (go_at_call 95; refine (nanH2.out _).mono ?_; rintro e w ⟨rfl, he⟩; subst he)
        | (go_at_call 96; fail))
      refine (upH3.out _).mono ?_
      rintro e w ⟨rfl, he⟩
      subst he
      go_wp2_with (first | (go_at_call 96; fail))
      refine (downH3.out _).mono ?_
      rintro e w ⟨rfl, he⟩
      subst he
      go_wp2
      go_ret
      exact ⟨by rw [hr, hs]; rfl, Below.refl _ _⟩
    · have hs : sgn a = [] := by unfold sgn; rw [if_neg hneg]
      have hd : decide (0 ≤ a) = true := decide_eq_true (by omega)
      have upH3 : Hid (∀ w, Calls Tryz.prog 96 #[.float .f64 A, .int .i64 1] w fun e w' => e = .returned (.bool true) ∧ w' = w) := fun w => by simpa [c1, hd] using upH2 w
      clear upH2 downH2 c1 c2 hd
      go_enter Tryz.func70, Tryz.ntmps70
      go_wp2_with (first
        | (go_at_call 82; refine (fH.out _).mono ?_; rintro e w ⟨rfl, he⟩; subst he)
        | (go_at_call 95; refine (nanH2.out _).mono ?_; rintro e w ⟨rfl, he⟩; subst he)
        | (go_at_call 96; fail))
      refine (upH3.out _).mono ?_
      rintro e w ⟨rfl, he⟩
      subst he
      go_wp2
      go_ret
      exact ⟨by rw [hr, hs]; rfl, Below.refl _ _⟩
  have upH3 : Hid (∀ w, Calls Tryz.prog 96 #[.float .f64 A, .int .i64 1] w fun e w' => e = .returned (.bool false) ∧ w' = w) := fun w => by simpa [c1] using upH2 w
  have downH3 : Hid (∀ w, Calls Tryz.prog 96 #[.float .f64 A, .int .i64 (-1)] w fun e w' => e = .returned (.bool false) ∧ w' = w) := fun w => by simpa [c1] using downH2 w
  have hK := openC_zero c1 c2
  obtain ⟨S, hS⟩ : ∃ S : List UInt8, S = sgn a := ⟨_, rfl⟩
  have hSl : S.length ≤ 1 := by rw [hS]; unfold sgn; split <;> simp
  have hodd : ∃ z1 z2 : Int, ((oddL a).1 : Int) = z1 ∧ (oddL a).2 = z2 := ⟨_, _, rfl, rfl⟩
  obtain ⟨z1, z2, hz1, hz2⟩ := hodd
  have oddH : Hid (∀ w, Calls Tryz.prog 97 #[.int .i64 a] w fun e w' => e = .returned (.tuple #[.int .i64 z1, .int .i64 z2]) ∧ w' = w) := fun w => by rw [← hz1, ← hz2]; exact odd_calls a w hK
  have hbd := odd_bound a
  have bm : Bd z1 := by rw [← hz1]; exact hbd.1
  have be : Bd z2 := by rw [← hz2]; exact hbd.2
  have hd1 : (FN z1).size ≤ 20 := itoa_size bm.1 bm.2
  have hd2 : (FN z2).size ≤ 20 := itoa_size be.1 be.2
  have hres : Hid (mkS (showL a) = ((mkS S ++ FN z1) ++ mkS [112]) ++ FN z2) := by
    show _ = _
    rw [FN, FN, mkS_append, mkS_append, mkS_append, ← hz1, ← hz2, itoa_nat, hS, show_odd c1 c2]
  have formH : Hid (∀ n, Bd n → ∀ W : World, Below w.heap.size w W → Calls Tryz.prog 98 #[.int .i64 n, .int .i64 10] W fun e w' => e = .returned (.string (FN n)) ∧ Below w.heap.size w w') := fun n hn W hW => by
    refine (format_calls n W hn (heH.out.kept hW)).mono ?_
    rintro e w' ⟨rfl, hb⟩
    exact ⟨rfl, hW.trans (hb.mono hW.size)⟩
  have hb0 : Below w.heap.size w w := Below.refl _ _
  clear upH2 downH2 c1 c2 hK hz1 hz2 hbd
  by_cases hneg : a < 0
  · have hs : S = [45] := by rw [hS]; unfold sgn; rw [if_pos hneg]
    subst hs
    clear hS
    go_enter Tryz.func70, Tryz.ntmps70
    go_wp2_with (first
      | (go_at_call 82; refine (fH.out _).mono ?_; rintro e w ⟨rfl, he⟩; subst he)
      | (go_at_call 95; refine (nanH2.out _).mono ?_; rintro e w ⟨rfl, he⟩; subst he)
      | (go_at_call 96; fail))
    refine (upH3.out _).mono ?_
    rintro e w ⟨rfl, he⟩
    subst he
    go_wp2_with (first | (go_at_call 96; fail))
    refine (downH3.out _).mono ?_
    rintro e w ⟨rfl, he⟩
    subst he
    go_wp2_with (first
      | (go_at_call 97; refine (oddH.out _).mono ?_; rintro e w ⟨rfl, he⟩; subst he)
      | (go_at_call 98; refine (formH.out _ (by assumption) _ hb0).mono ?_; rintro e w1 ⟨rfl, hb0⟩))
    go_ret
    refine ⟨?_, by assumption⟩
    rw [hres.out]; rfl
  · have hs : S = [] := by rw [hS]; unfold sgn; rw [if_neg hneg]
    subst hs
    clear hS
    go_enter Tryz.func70, Tryz.ntmps70
    go_wp2_with (first
      | (go_at_call 82; refine (fH.out _).mono ?_; rintro e w ⟨rfl, he⟩; subst he)
      | (go_at_call 95; refine (nanH2.out _).mono ?_; rintro e w ⟨rfl, he⟩; subst he)
      | (go_at_call 96; fail))
    refine (upH3.out _).mono ?_
    rintro e w ⟨rfl, he⟩
    subst he
    go_wp2_with (first | (go_at_call 96; fail))
    refine (downH3.out _).mono ?_
    rintro e w ⟨rfl, he⟩
    subst he
    go_wp2_with (first
      | (go_at_call 97; refine (oddH.out _).mono ?_; rintro e w ⟨rfl, he⟩; subst he)
      | (go_at_call 98; refine (formH.out _ (by assumption) _ hb0).mono ?_; rintro e w1 ⟨rfl, hb0⟩))
    go_ret
    refine ⟨?_, by assumption⟩
    rw [hres.out]; rfl
end Go.Proofs.YtcencddbdidjjaaGreatDoor
