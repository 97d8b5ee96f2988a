/- Plain facts on numbers of 32 and 64 bits: wraps, masks, shifts. -/
import Derived.WalkKit
import Derived.ProofKit
import Derived.Test.YtchcdlelaklnnaaLs
import Derived.OpenShut
import Derived.RegionTactic
import Derived.ChangeAlike
import Derived.BigQuiet
import Derived.Deep.QuietTactic
import Derived.Below
import Derived.WalkLawsBesides
import Derived.Laws.Rows
import Derived.LoopTactic
namespace Go.Proofs.Ytchcdlelaklnnaa
open Go.ChangeShapes Go.WideShapes Go.ChangeAt Go.RowKit

theorem wrap_i64 (n : Int) : IntKind.i64.wrap n = wrap64 n := by
  simp only [IntKind.wrap, IntKind.bits, IntKind.signed, wrap64]
  simp
  split <;> omega
theorem wrap64_id (n : Int) (h1 : -9223372036854775808 ≤ n) (h2 : n < 9223372036854775808) : wrap64 n = n := by
  unfold wrap64; omega
theorem wrap64_in (n : Int) : -9223372036854775808 ≤ wrap64 n ∧ wrap64 n < 9223372036854775808 := by
  unfold wrap64; omega
theorem wrap32_in (n : Int) : -2147483648 ≤ wrap32 n ∧ wrap32 n < 2147483648 := by
  unfold wrap32; omega

/-- 'n & (2^k - 1)' of an int64 is the remainder by 2^k. -/
theorem and_mask (n : Int) (k : Nat) (hk : k < 64) : bits .and .i64 n (2 ^ k - 1) = n % 2 ^ k := by
  have hp : (2 : Nat) ^ k ≤ 2 ^ 63 := Nat.pow_le_pow_right (by decide) (by omega)
  have h1 : 0 < (2 : Nat) ^ k := Nat.pow_pos (by decide)
  have e2 : (BitVec.ofInt 64 ((2 : Int) ^ k - 1)).toNat = 2 ^ k - 1 := by
    have : ((2 : Int) ^ k - 1) = ((2 ^ k - 1 : Nat) : Int) := by
      rw [Int.ofNat_sub h1]; simp
    rw [this, BitVec.ofInt_natCast, BitVec.toNat_ofNat]
    apply Nat.mod_eq_of_lt; omega
  show IntKind.i64.wrap ((BitVec.ofInt 64 n &&& BitVec.ofInt 64 ((2 : Int) ^ k - 1)).toNat) = _
  rw [wrap_i64, BitVec.toNat_and, e2, Nat.and_two_pow_sub_one_eq_mod, BitVec.toNat_ofInt]
  have hd : ((2 ^ k : Nat) : Int) ∣ ((2 ^ 64 : Nat) : Int) := by
    refine Int.natCast_dvd_natCast.2 (Nat.pow_dvd_pow 2 (by omega))
  have e3 : (((n % (2 ^ 64 : Nat)).toNat % 2 ^ k : Nat) : Int) = n % 2 ^ k := by
    have h0 : 0 ≤ n % ((2 ^ 64 : Nat) : Int) := Int.emod_nonneg _ (by decide)
    rw [Int.natCast_emod, Int.toNat_of_nonneg h0, Int.emod_emod_of_dvd _ hd]
    simp
  rw [e3]
  have hb : n % 2 ^ k < 2 ^ k := Int.emod_lt_of_pos _ (by exact_mod_cast h1)
  have hb0 : 0 ≤ n % 2 ^ k := Int.emod_nonneg _ (by have : (0 : Int) < 2 ^ k := by exact_mod_cast h1
                                                    omega)
  have hp' : (2 : Int) ^ k ≤ 2 ^ 63 := by exact_mod_cast hp
  exact wrap64_id _ (by omega) (by omega)

theorem and63 (n : Int) : bits .and .i64 n 63 = n % 64 := and_mask n 6 (by decide)
theorem and31 (n : Int) : bits .and .i64 n 31 = n % 32 := and_mask n 5 (by decide)
theorem and32 (n : Int) : bits .and .i64 n 4294967295 = n % 4294967296 := and_mask n 32 (by decide)

def shl64 (a b : Int) : Int := wrap64 (a * 2 ^ (b % 64).toNat)
def shr64 (a b : Int) : Int := a.fdiv (2 ^ (b % 64).toNat)
def ushr64 (a b : Int) : Int := wrap64 ((a % 18446744073709551616).fdiv (2 ^ (b % 64).toNat))

theorem shift_shl (a b : Int) : Op.shift .shl .i64 a .i64 (bits .and .i64 b 63) = pure (.int .i64 (shl64 a b)) := by
  have h0 : ¬ b % 64 < 0 := by omega
  have h1 : min (b % 64).toNat 64 = (b % 64).toNat := by omega
  simp only [Op.shift, and63, if_neg h0, IntKind.bits, h1, wrap_i64, shl64]
theorem shift_shr (a b : Int) : Op.shift .shr .i64 a .i64 (bits .and .i64 b 63) = pure (.int .i64 (shr64 a b)) := by
  have h0 : ¬ b % 64 < 0 := by omega
  have h1 : min (b % 64).toNat 64 = (b % 64).toNat := by omega
  simp only [Op.shift, and63, if_neg h0, IntKind.bits, h1, shr64]
theorem shift_ushr (a b : Int) : Op.shift .shr .u64 (IntKind.u64.wrap a) .i64 (bits .and .i64 b 63) = pure (.int .u64 ((IntKind.u64.wrap a).fdiv (2 ^ (b % 64).toNat))) := by
  have h0 : ¬ b % 64 < 0 := by omega
  have h1 : min (b % 64).toNat 64 = (b % 64).toNat := by omega
  simp only [Op.shift, and63, if_neg h0, IntKind.bits, h1]
theorem u64_small (n : Int) (h0 : 0 ≤ n) (h1 : n < 18446744073709551616) : IntKind.u64.wrap n = n := by
  simp only [IntKind.wrap, IntKind.bits, IntKind.signed]
  simp
  omega
theorem shift_shl_u (a b : Int) : Op.shift .shl .i64 a .u64 (IntKind.u64.wrap (bits .and .i64 b 63)) = pure (.int .i64 (shl64 a b)) := by
  have h0 : ¬ b % 64 < 0 := by omega
  have h1 : min (b % 64).toNat 64 = (b % 64).toNat := by omega
  simp only [Op.shift, and63, u64_small _ (by omega : 0 ≤ b % 64) (by omega : b % 64 < 18446744073709551616), if_neg h0, IntKind.bits, h1, wrap_i64, shl64]
theorem shift_shr_u (a b : Int) : Op.shift .shr .i64 a .u64 (IntKind.u64.wrap (bits .and .i64 b 63)) = pure (.int .i64 (shr64 a b)) := by
  have h0 : ¬ b % 64 < 0 := by omega
  have h1 : min (b % 64).toNat 64 = (b % 64).toNat := by omega
  simp only [Op.shift, and63, u64_small _ (by omega : 0 ≤ b % 64) (by omega : b % 64 < 18446744073709551616), if_neg h0, IntKind.bits, h1, shr64]
theorem shift_ushr_u (a b : Int) : Op.shift .shr .u64 (IntKind.u64.wrap a) .u64 (IntKind.u64.wrap (bits .and .i64 b 63)) = pure (.int .u64 ((IntKind.u64.wrap a).fdiv (2 ^ (b % 64).toNat))) := by
  have h0 : ¬ b % 64 < 0 := by omega
  have h1 : min (b % 64).toNat 64 = (b % 64).toNat := by omega
  simp only [Op.shift, and63, u64_small _ (by omega : 0 ≤ b % 64) (by omega : b % 64 < 18446744073709551616), if_neg h0, IntKind.bits, h1]

theorem wrap64_sub (x y : Int) : wrap64 (x - wrap64 y) = wrap64 (x - y) := by unfold wrap64; omega
theorem wrap64_add (x y : Int) : wrap64 (wrap64 x + y) = wrap64 (x + y) := by unfold wrap64; omega
theorem wrap64_mul (x y : Int) : wrap64 (wrap64 x * y) = wrap64 (x * y) := by
  have e : wrap64 x = x - (x + 9223372036854775808) / 18446744073709551616 * 18446744073709551616 := by unfold wrap64; omega
  have e2 : wrap64 x * y = x * y - 18446744073709551616 * ((x + 9223372036854775808) / 18446744073709551616 * y) := by
    rw [e, Int.sub_mul]
    have : (x + 9223372036854775808) / 18446744073709551616 * 18446744073709551616 * y = 18446744073709551616 * ((x + 9223372036854775808) / 18446744073709551616 * y) := by ac_rfl
    rw [this]
  rw [e2]; unfold wrap64; omega

theorem sub_div_mul (a b : Int) (h1 : -9223372036854775808 ≤ a) (h2 : a < 9223372036854775808) : wrap64 (a - wrap64 (wrap64 (a.tdiv b) * b)) = a.tmod b := by
  rw [wrap64_sub, ← wrap64_sub, wrap64_mul, wrap64_sub]
  have e : a - a.tdiv b * b = a.tmod b := by
    have := Int.tmod_add_mul_tdiv a b
    rw [Int.mul_comm] at this
    omega
  rw [e]
  have ha : (a.tmod b).natAbs ≤ a.natAbs := by
    rw [Int.natAbs_tmod]; exact Nat.mod_le _ _
  have hs : 0 ≤ a → 0 ≤ a.tmod b := fun h => Int.tmod_nonneg b h
  have hn : a < 0 → a.tmod b ≤ 0 := fun h => by
    have := Int.tmod_nonneg b (by omega : 0 ≤ -a)
    rw [Int.neg_tmod] at this
    omega
  exact wrap64_id _ (by omega) (by omega)
end Go.Proofs.Ytchcdlelaklnnaa

/- The cursor of the drawing functions: what it holds in memory, and what one byte drawn from it leaves. -/
namespace Go.Proofs.Ytchcdlelaklnnaa
open Go.ChangeShapes Go.WideShapes Go.ChangeAt Go.RowKit

theorem and255 (n : Int) : bits .and .i64 n 255 = n % 256 := and_mask n 8 (by decide)

theorem byteEnd (p : Nat) (a : Option Addr) (len cap : Nat) (i h : Int) (w : World)
    (c0 : w.cell? ⟨p, 0, none⟩ = some (.slice a len cap)) (c1 : w.cell? ⟨p, 1, none⟩ = some (.int .i64 i)) (c2 : w.cell? ⟨p, 2, none⟩ = some (.int .i64 h))
    (f2 : w.frozen? ⟨p, 2, none⟩ = false) (hi : ¬ i < (len : Int)) :
    Calls Try.prog 76 #[.pointer (some ⟨p, 0, none⟩)] w fun e w' => ∃ x h' : Int, 0 ≤ x ∧ x < 256 ∧ e = .returned (.int .i64 x) ∧ w'.heap = (w.setCell ⟨p, 2, none⟩ (.int .i64 h')).heap ∧ w'.os = w.os ∧ w'.tape = w.tape ∧ w'.output = w.output := by
  have hb := and255
  go_enter Try.func76, Try.ntmps76
  go_wp2
  go_quiet (fail)
  go_wp2
  go_quiet (fail)
  go_wp2
  go_ret
  exact ⟨_, _, Int.emod_nonneg _ (by decide), Int.emod_lt_of_pos _ (by decide), rfl, rfl, rfl, rfl, rfl⟩

theorem byteMore (p b off : Nat) (len cap k : Nat) (h y : Int) (w : World)
    (c0 : w.cell? ⟨p, 0, none⟩ = some (.slice (some ⟨b, off, none⟩) len cap)) (c1 : w.cell? ⟨p, 1, none⟩ = some (.int .i64 k)) (c2 : w.cell? ⟨p, 2, none⟩ = some (.int .i64 h))
    (f1 : w.frozen? ⟨p, 1, none⟩ = false) (f2 : w.frozen? ⟨p, 2, none⟩ = false) (hk : k < len) (hm : len ≤ 9223372036854775807)
    (hbp : ¬ b = p) (cy : w.cell? ⟨b, off + k, none⟩ = some (.int .u8 y)) :
    Calls Try.prog 76 #[.pointer (some ⟨p, 0, none⟩)] w fun e w' => ∃ x h' : Int, 0 ≤ x ∧ x < 256 ∧ e = .returned (.int .i64 x) ∧ w'.heap = ((w.setCell ⟨p, 2, none⟩ (.int .i64 h')).setCell ⟨p, 1, none⟩ (.int .i64 (k + 1 : Nat))).heap ∧ w'.os = w.os ∧ w'.tape = w.tape ∧ w'.output = w.output := by
  have hb := and255
  have hk' : (k : Int) < (len : Int) := by omega
  go_enter Try.func76, Try.ntmps76
  go_wp2
  go_quiet (fail)
  go_wp2
  go_quiet (fail)
  go_wp2
  go_quiet (fail)
  go_wp2
  go_ret
  exact ⟨_, _, Int.emod_nonneg _ (by decide), Int.emod_lt_of_pos _ (by decide), rfl, rfl, rfl, rfl, rfl⟩

theorem cell_other (w : World) (p i j : Nat) (v : Value) (h : i ≠ j) : (w.setCell ⟨p, i, none⟩ v).cell? ⟨p, j, none⟩ = w.cell? ⟨p, j, none⟩ :=
  World.cell?_setCell_other (w := w) (a := ⟨p, i, none⟩) (b := ⟨p, j, none⟩) (v := v) (h := fun e => h (congrArg Addr.off e))
theorem cell_same (w : World) (p i : Nat) (u v : Value) (h : w.cell? ⟨p, i, none⟩ = some u) : (w.setCell ⟨p, i, none⟩ v).cell? ⟨p, i, none⟩ = some v :=
  World.cell?_setCell_same (w := w) (a := ⟨p, i, none⟩) (v := v) (h := h)

/-- Only block p may have changed; new ones may have come. -/
def Only (p : Nat) (w w' : World) : Prop := w.heap.size ≤ w'.heap.size ∧ ∀ k, k < w.heap.size → k ≠ p → w'.heap[k]? = w.heap[k]?

theorem Only.refl (p : Nat) (w : World) : Only p w w := ⟨Nat.le_refl _, fun _ _ _ => rfl⟩
theorem Only.trans {p : Nat} {a b c : World} (h : Only p a b) (k : Only p b c) : Only p a c :=
  ⟨Nat.le_trans h.1 k.1, fun i hi hp => (k.2 i (Nat.lt_of_lt_of_le hi h.1) hp).trans (h.2 i hi hp)⟩
theorem Only.alloc {p : Nat} {a b : World} (h : Only p a b) (o : Obj) : Only p a (b.alloc o) :=
  h.trans ⟨by simp, fun k hk _ => Below.heap_alloc _ _ _ hk⟩
theorem Only.cell {p : Nat} {w w' : World} (h : Only p w w') {q i : Nat} (hq : q < w.heap.size) (hp : q ≠ p) : w'.cell? ⟨q, i, none⟩ = w.cell? ⟨q, i, none⟩ :=
  World.cell?_of_block (w := w) (h.2 q hq hp)

/-- What a drawing came from: nothing, or a row of bytes that the first world holds. -/
def Code (C : Option Addr) (len : Nat) (w0 : World) : Prop :=
  len ≤ 9223372036854775807 ∧ (len = 0 ∨ ∃ b off, C = some ⟨b, off, none⟩ ∧ ∀ j, j < len → ∃ y, w0.cell? ⟨b, off + j, none⟩ = some (.int .u8 y))

theorem Code.later {C : Option Addr} {len : Nat} {w0 w : World} (h : Code C len w0) (hb : Below w0.heap.size w0 w) : Code C len w := by
  obtain ⟨hm, h | ⟨b, off, e, hrow⟩⟩ := h
  · exact ⟨hm, .inl h⟩
  · refine ⟨hm, .inr ⟨b, off, e, fun j hj => ?_⟩⟩
    obtain ⟨y, hy⟩ := hrow j hj
    exact ⟨y, by rw [hb.cell (block_lt_of_cell hy)]; exact hy⟩

theorem code_of_row {w : World} {a : Option Addr} {len cap : Nat} {zs : List Int}
    (h : (a = none ∧ len = 0 ∧ cap = 0 ∧ zs = []) ∨ ∃ x, a = some x ∧ len ≤ cap ∧ cap ≤ maxLen ∧ zs.length = cap ∧ (∀ i, i < zs.length → w.cell? (x.add i) = some (.int .u8 (zs.getD i 0))) ∧ ∀ n ∈ zs, (Lit.int .u8 n).wf = true) : Code a len w := by
  rcases h with ⟨_, rfl, _, _⟩ | ⟨x, rfl, hl, hm, hz, hcell, _⟩
  · exact ⟨by omega, .inl rfl⟩
  · unfold maxLen at hm
    refine ⟨by omega, ?_⟩
    by_cases h0 : len = 0
    · exact .inl h0
    · obtain ⟨b, off, spot⟩ := x
      have hc := hcell 0 (by omega)
      have hspot : spot = none := by simpa [Addr.add] using World.cell?_spot hc
      subst hspot
      refine .inr ⟨b, off, rfl, fun j hj => ⟨zs.getD j 0, ?_⟩⟩
      have hadd : (⟨b, off, none⟩ : Addr).add j = ⟨b, off + j, none⟩ := by unfold Addr.add; split <;> simp_all
      rw [← hadd]
      exact hcell j (by omega)

/-- The cursor in block p: its slice, its place, its state; below the first world's end nothing has changed. -/
structure Cur (C : Option Addr) (len cap p : Nat) (w0 w : World) : Prop where
  code : Code C len w0
  bel : Below w0.heap.size w0 w
  new : w0.heap.size ≤ p
  row : ∃ (k : Nat) (h : Int), k ≤ len ∧ w.cell? ⟨p, 0, none⟩ = some (.slice C len cap) ∧ w.cell? ⟨p, 1, none⟩ = some (.int .i64 k) ∧ w.cell? ⟨p, 2, none⟩ = some (.int .i64 h)
  f1 : w.frozen? ⟨p, 1, none⟩ = false
  f2 : w.frozen? ⟨p, 2, none⟩ = false

theorem Cur.lt {C : Option Addr} {len cap p : Nat} {w0 w : World} (h : Cur C len cap p w0 w) : p < w.heap.size := by
  obtain ⟨_, _, _, c, _, _⟩ := h.row
  exact block_lt_of_cell c

theorem Cur.alloc {C : Option Addr} {len cap p : Nat} {w0 w : World} (h : Cur C len cap p w0 w) (o : Obj) : Cur C len cap p w0 (w.alloc o) := by
  have hl := h.lt
  have hs := h.bel.size
  refine ⟨h.code, h.bel.alloc hs o, h.new, ?_, ?_, ?_⟩
  · obtain ⟨k, s, hk, c0, c1, c2⟩ := h.row
    exact ⟨k, s, hk, by rw [World.cell?_alloc_past (w := w) o p 0 hl]; exact c0, by rw [World.cell?_alloc_past (w := w) o p 1 hl]; exact c1, by rw [World.cell?_alloc_past (w := w) o p 2 hl]; exact c2⟩
  · rw [World.frozen?_alloc_past (w := w) o p 1 hl]; exact h.f1
  · rw [World.frozen?_alloc_past (w := w) o p 2 hl]; exact h.f2

/-- The new world's blocks are those of a world with a store at the cursor. -/
theorem Cur.of_heap {C : Option Addr} {len cap p : Nat} {w0 w w1 w' : World} (h : Cur C len cap p w0 w1) (hh : w'.heap = w1.heap) (ho : w'.os = w1.os) (ht : w'.tape = w1.tape) (hu : w'.output = w1.output) (hn : Only p w w1) : Cur C len cap p w0 w' ∧ Only p w w' := by
  have hc : ∀ a, w'.cell? a = w1.cell? a := fun a => World.cell?_of_block (w := w1) (by rw [hh])
  have hf : ∀ a, w'.frozen? a = w1.frozen? a := fun a => World.frozen?_of_block (w := w1) (by rw [hh])
  refine ⟨⟨h.code, ⟨ho.trans h.bel.os, ht.trans h.bel.tape, hu.trans h.bel.output, by rw [hh]; exact h.bel.size, fun k hk => by rw [hh]; exact h.bel.block k hk⟩, h.new, ?_, by rw [hf]; exact h.f1, by rw [hf]; exact h.f2⟩, by rw [hh]; exact hn.1, fun k hk hp => by rw [hh]; exact hn.2 k hk hp⟩
  obtain ⟨k, s, hk, c0, c1, c2⟩ := h.row
  exact ⟨k, s, hk, by rw [hc]; exact c0, by rw [hc]; exact c1, by rw [hc]; exact c2⟩

theorem byte_calls (C : Option Addr) (len cap p : Nat) (w0 w : World) (h : Cur C len cap p w0 w) :
    Calls Try.prog 76 #[.pointer (some ⟨p, 0, none⟩)] w fun e w' => ∃ x : Int, 0 ≤ x ∧ x < 256 ∧ e = .returned (.int .i64 x) ∧ Cur C len cap p w0 w' ∧ Only p w w' := by
  obtain ⟨k, s, hk, c0, c1, c2⟩ := h.row
  obtain ⟨hm, hcode⟩ := h.code
  have hl := h.lt
  have only1 : ∀ (v : Value) (i : Nat), Only p w (w.setCell ⟨p, i, none⟩ v) := fun v i => ⟨by simp, fun j _ hj => Below.heap_setCell _ _ _ _ hj⟩
  by_cases hlt : k < len
  · rcases hcode with rfl | ⟨b, off, rfl, hrow⟩
    · omega
    obtain ⟨y, hy⟩ := hrow k hlt
    have hb : b < w0.heap.size := block_lt_of_cell hy
    have hy' : w.cell? ⟨b, off + k, none⟩ = some (.int .u8 y) := by rw [h.bel.cell hb]; exact hy
    refine (byteMore p b off len cap k s y w c0 c1 c2 h.f1 h.f2 hlt hm (by have := h.new; omega) hy').mono ?_
    rintro e w' ⟨x, h', hx0, hx1, rfl, hh, ho, ht, hu⟩
    refine ⟨x, hx0, hx1, rfl, ?_⟩
    refine Cur.of_heap (w1 := (w.setCell ⟨p, 2, none⟩ (.int .i64 h')).setCell ⟨p, 1, none⟩ (.int .i64 (k + 1 : Nat))) ?_ hh ho ht hu ?_
    · refine ⟨h.code, (h.bel.setCell (p := ⟨p, 2, none⟩) h.new _).setCell (p := ⟨p, 1, none⟩) h.new _, h.new, ⟨k + 1, h', hlt, ?_, ?_, ?_⟩, ?_, ?_⟩
      · rw [cell_other _ p 1 0 _ (by decide), cell_other _ p 2 0 _ (by decide)]; exact c0
      · exact cell_same _ p 1 _ _ (by rw [cell_other _ p 2 1 _ (by decide)]; exact c1)
      · rw [cell_other _ p 1 2 _ (by decide)]; exact cell_same _ p 2 _ _ c2
      · rw [World.frozen?_setCell, World.frozen?_setCell]; exact h.f1
      · rw [World.frozen?_setCell, World.frozen?_setCell]; exact h.f2
    · exact (only1 _ 2).trans ⟨by simp, fun j _ hj => Below.heap_setCell _ _ _ _ hj⟩
  · refine (byteEnd p C len cap k s w c0 c1 c2 h.f2 (by omega)).mono ?_
    rintro e w' ⟨x, h', hx0, hx1, rfl, hh, ho, ht, hu⟩
    refine ⟨x, hx0, hx1, rfl, ?_⟩
    refine Cur.of_heap (w1 := w.setCell ⟨p, 2, none⟩ (.int .i64 h')) ?_ hh ho ht hu (only1 _ 2)
    refine ⟨h.code, h.bel.setCell (p := ⟨p, 2, none⟩) h.new _, h.new, ⟨k, h', hk, ?_, ?_, ?_⟩, ?_, ?_⟩
    · rw [cell_other _ p 2 0 _ (by decide)]; exact c0
    · rw [cell_other _ p 2 1 _ (by decide)]; exact c1
    · exact cell_same _ p 2 _ _ c2
    · rw [World.frozen?_setCell]; exact h.f1
    · rw [World.frozen?_setCell]; exact h.f2
end Go.Proofs.Ytchcdlelaklnnaa

/- The drawing functions of spec: each returns, draws some number, and changes nothing that was there. -/
namespace Go.Proofs.Ytchcdlelaklnnaa
open Go.ChangeShapes Go.WideShapes Go.ChangeAt Go.RowKit

theorem below_small (C : Option Addr) (len cap p : Nat) (w0 w : World) (n : Int) (h1 : 0 < n) (h2 : n ≤ 256) (h : Cur C len cap p w0 w) :
    Calls Try.prog 57 #[.pointer (some ⟨p, 0, none⟩), .int .i64 n] w fun e w' => ∃ x : Int, 0 ≤ x ∧ x < n ∧ e = .returned (.int .i64 x) ∧ Cur C len cap p w0 w' ∧ Only p w w' := by
  have hn : ¬ n ≤ 0 := by omega
  have hb := byte_calls C len cap p w0 w h
  clear h
  have hz : ¬ n = 0 := by omega
  go_enter Try.func57, Try.ntmps57
  go_wp2_with (go_at_call 76; refine hb.mono ?_; rintro e w' ⟨x, hx0, hx1, rfl, hc, ho⟩)
  go_ret
  refine ⟨_, ?_, ?_, rfl, by assumption, by assumption⟩
  · exact Int.emod_nonneg _ hz
  · exact Int.emod_lt_of_pos _ h1

theorem below_great (C : Option Addr) (len cap p : Nat) (w0 w : World) (n : Int) (h1 : 256 < n) (h : Cur C len cap p w0 w) :
    Calls Try.prog 57 #[.pointer (some ⟨p, 0, none⟩), .int .i64 n] w fun e w' => ∃ x : Int, 0 ≤ x ∧ x < n ∧ e = .returned (.int .i64 x) ∧ Cur C len cap p w0 w' ∧ Only p w w' := by
  have hn : ¬ n ≤ 0 := by omega
  have hn2 : ¬ n ≤ 256 := by omega
  have hz : ¬ n = 0 := by omega
  have ho := Only.refl p w
  have hb : ∀ w1, Cur C len cap p w0 w1 → Only p w w1 → Calls Try.prog 76 #[.pointer (some ⟨p, 0, none⟩)] w1 fun e w' => ∃ x : Int, 0 ≤ x ∧ x < 256 ∧ e = .returned (.int .i64 x) ∧ Cur C len cap p w0 w' ∧ Only p w w' := fun w1 hc ho => (byte_calls C len cap p w0 w1 hc).mono fun e w' ⟨x, a, b, c, d, f⟩ => ⟨x, a, b, c, d, ho.trans f⟩
  go_enter Try.func57, Try.ntmps57
  go_wp2_with (go_at_call 76; refine (hb _ (by assumption) (by assumption)).mono ?_; rintro e w' ⟨x, hx0, hx1, rfl, hc, ho⟩)
  go_ret
  refine ⟨_, ?_, ?_, rfl, by assumption, by assumption⟩
  · exact Int.emod_nonneg _ hz
  · exact Int.emod_lt_of_pos _ (by omega)

theorem below_calls (C : Option Addr) (len cap p : Nat) (w0 w : World) (n : Int) (h1 : 0 < n) (h : Cur C len cap p w0 w) :
    Calls Try.prog 57 #[.pointer (some ⟨p, 0, none⟩), .int .i64 n] w fun e w' => ∃ x : Int, 0 ≤ x ∧ x < n ∧ e = .returned (.int .i64 x) ∧ Cur C len cap p w0 w' ∧ Only p w w' := by
  by_cases h2 : n ≤ 256
  · exact below_small C len cap p w0 w n h1 h2 h
  · exact below_great C len cap p w0 w n (by omega) h

theorem new_nil (C : Option Addr) (cap : Nat) (w : World) :
    Calls Try.prog 30 #[.slice C 0 cap] w fun e w' => e = .returned (.pointer (some ⟨w.heap.size, 0, none⟩)) ∧ ∃ h : Int, w' = w.alloc (.cells #[.slice C 0 cap, .int .i64 0, .int .i64 h] 106) := by
  go_enter Try.func30, Try.ntmps30
  go_wp2
  go_loop [3, 4] (fun h i => (∃ s : Int, h = .int .i64 s) ∧ i = .int .i64 0) (fun _ _ => 0)
  case atStart => exact ⟨⟨_, rfl⟩, rfl⟩
  case round =>
    obtain ⟨⟨s, rfl⟩, rfl⟩ := hrel
    go_wp2
    go_ret
    exact ⟨rfl, _, rfl⟩

theorem new_row (b off len cap : Nat) (w : World) (hm : len ≤ 9223372036854775807) (hrow : ∀ j, j < len → ∃ y, w.cell? ⟨b, off + j, none⟩ = some (.int .u8 y)) :
    Calls Try.prog 30 #[.slice (some ⟨b, off, none⟩) len cap] w fun e w' => e = .returned (.pointer (some ⟨w.heap.size, 0, none⟩)) ∧ ∃ h : Int, w' = w.alloc (.cells #[.slice (some ⟨b, off, none⟩) len cap, .int .i64 0, .int .i64 h] 106) := by
  go_enter Try.func30, Try.ntmps30
  go_wp2
  go_loop [3, 4] (fun h i => (∃ s : Int, h = .int .i64 s) ∧ ∃ k : Nat, k ≤ len ∧ i = .int .i64 k) (fun _ i => len - (intOf i).toNat)
  case atStart => exact ⟨⟨_, rfl⟩, 0, by omega, rfl⟩
  case round =>
    obtain ⟨⟨s, rfl⟩, k, hk, rfl⟩ := hrel
    by_cases hlt : k < len
    · obtain ⟨y, hy⟩ := hrow k hlt
      clear hrow
      have hlt' : (k : Int) < (len : Int) := by omega
      go_wp2
      go_round
      case rel => exact ⟨⟨_, rfl⟩, k + 1, by omega, by go_num⟩
      case measure => simp [intOf]; omega
    · clear hrow
      have hlt' : ¬ (k : Int) < (len : Int) := by omega
      go_wp2
      go_ret
      exact ⟨rfl, _, rfl⟩
theorem new_calls (C : Option Addr) (len cap : Nat) (w : World) (hc : Code C len w) :
    Calls Try.prog 30 #[.slice C len cap] w fun e w' => e = .returned (.pointer (some ⟨w.heap.size, 0, none⟩)) ∧ Cur C len cap w.heap.size w w' := by
  have key : ∀ (e : Ending) (w' : World), (e = .returned (.pointer (some ⟨w.heap.size, 0, none⟩)) ∧ ∃ h : Int, w' = w.alloc (.cells #[.slice C len cap, .int .i64 0, .int .i64 h] 106)) → e = .returned (.pointer (some ⟨w.heap.size, 0, none⟩)) ∧ Cur C len cap w.heap.size w w' := by
    rintro e w' ⟨rfl, h, rfl⟩
    refine ⟨rfl, hc, (Below.refl _ _).alloc (Nat.le_refl _) _, Nat.le_refl _, ⟨0, h, Nat.zero_le _, ?_, ?_, ?_⟩, ?_, ?_⟩
    · rw [World.cell?_alloc_new]; rfl
    · rw [World.cell?_alloc_new]; rfl
    · rw [World.cell?_alloc_new]; rfl
    · exact World.frozen?_alloc_new _ _ _ _
    · exact World.frozen?_alloc_new _ _ _ _
  obtain ⟨hm, rfl | ⟨b, off, rfl, hrow⟩⟩ := hc
  · exact (new_nil C cap w).mono key
  · exact (new_row b off len cap w hm hrow).mono key

end Go.Proofs.Ytchcdlelaklnnaa
