/- spec.l1FloatDiv: what it answers. -/
import Derived.Test.YtjkmoggajpkdeaaDiv0
namespace Go.Proofs.Ytjkmoggajpkdeaa
set_option linter.unusedVariables false
open Go.ChangeShapes Go.WideShapes Go.ChangeAt Go.RowKit

theorem quo_first (m n : Nat) (hm : m < 9007199254740992) : wrap64 ((m : Int) / (n : Int)) = ((divQ m n 0 : Nat) : Int) := by
  rw [divQ_zero, wrap64_id _ (by have := Int.ediv_nonneg (Int.natCast_nonneg m) (Int.natCast_nonneg n); omega) (by
    have : m / n ≤ m := Nat.div_le_self m n
    rw [← Int.natCast_ediv]; omega), Int.natCast_ediv]
theorem rem_first (m n : Nat) : (m : Int) % (n : Int) = ((divR m n 0 : Nat) : Int) := by rw [divR_zero, Int.natCast_emod]
theorem owns_one (w : World) (x : Value) (base : Nat) (hb : base ≤ w.heap.size) : (w.alloc (.cells #[x] 2)).ownsRow base 2 1 (.slice (some ⟨w.heap.size, 0, none⟩) 1 1) 1 [x] :=
  ⟨rfl, .inr ⟨w.heap.size, 1, #[x], rfl, hb, heap_alloc_last w _, by omega, by unfold maxLen; omega, rfl, rfl⟩⟩
theorem owns_empty (w : World) (base : Nat) (hb : base ≤ w.heap.size) : (w.alloc (.cells #[] 2)).ownsRow base 2 1 (.slice (some ⟨w.heap.size, 0, none⟩) 0 0) 0 [] :=
  ⟨rfl, .inr ⟨w.heap.size, 0, #[], rfl, hb, heap_alloc_last w _, by omega, by unfold maxLen; omega, rfl, rfl⟩⟩
theorem one_cell (w : World) (x : Value) : ∀ j u, ([x] : List Value)[j]? = some u → (w.alloc (.cells #[x] 2)).cell? ((⟨w.heap.size, 0, none⟩ : Addr).add j) = some u := by
  intro j u hj
  match j, hj with
  | 0, hj => simp at hj; subst hj; simp [Addr.add]
theorem one_one (n : Int) : ∀ u ∈ ([.int .i64 n] : List Value), u.oneCell' = true := by
  intro u hu; simp at hu; subst hu; rfl
theorem below_app {B : Nat} {W wr w1 : World} {o : Obj} {row : Option Nat} (hb : Below B W wr) (hB : B ≤ wr.heap.size) (hg : (wr.alloc o).grownBy w1 row) (hr : ∀ k, row = some k → B ≤ k) : Below B W w1 :=
  (hb.alloc hB _).grown hg (by simp; omega) hr
theorem digit_cast (r n : Nat) : (r : Int) * 2 / (n : Int) = ((r * 2 / n : Nat) : Int) := by rw [Int.natCast_ediv]; rfl
theorem digit_wrap (r n : Nat) (hr : r < n) (hn : n < 9007199254740992) : wrap64 ((r : Int) * 2 / (n : Int)) = ((r * 2 / n : Nat) : Int) := by
  have h : r * 2 / n < 2 := Nat.div_lt_of_lt_mul (by omega)
  rw [show (r : Int) * 2 / (n : Int) = ((r * 2 / n : Nat) : Int) by rw [Int.natCast_ediv]; rfl]
  generalize r * 2 / n = d at *
  exact wrap64_id _ (by omega) (by omega)

set_option maxRecDepth 100000 in
set_option maxHeartbeats 2000000 in
theorem divFinN (s t : Bool) (m n : Nat) (e f : Int) (hm : m < 9007199254740992) (hn : n < 9007199254740992) (hn0 : n ≠ 0) (hm0 : ((m : Int) == 0) = false) (he : -1074 ≤ e) (he2 : e ≤ 1000) (hf : -1074 ≤ f) (hf2 : f ≤ 1000) (w : World) :
    Calls Try.prog 9 #[.agg (real s m e 0), .agg (real t n f 0)] w fun r w' => r = .returned (.int .i64 (signedOf (!s == t) ((rndOf (divQ m n 110) (e - f - 110) (decide (0 < divR m n 110)) : Nat) : Int))) ∧ Below w.heap.size w w' := by
  obtain ⟨i0, hi0⟩ : ∃ i, Try.prog.info? 2 = some i := Option.isSome_iff_exists.1 (by kernel_rfl)
  have hz0 : i0.zero = some (.int .i64 0) := by have : (Try.prog.info? 2).bind (·.zero) = some (.int .i64 0) := by kernel_rfl
                                                rw [hi0] at this; exact this
  have hz1 : i0.size = 1 := by have : (Try.prog.info? 2).map (·.size) = some 1 := by kernel_rfl
                               rw [hi0] at this; exact Option.some.inj this
  have hz2 : i0.bytes = 8 := by have : (Try.prog.info? 2).map (·.bytes) = some 8 := by kernel_rfl
                                rw [hi0] at this; exact Option.some.inj this
  unfold real
  have hnz : ((n : Int) == 0) = false := by simp; omega
  have hnp : (0 : Int) < n := by omega
  have hqf : Hid (wrap64 ((m : Int) / (n : Int)) = ((divQ m n 0 : Nat) : Int)) := quo_first m n hm
  have hrf : Hid ((m : Int) % (n : Int) = ((divR m n 0 : Nat) : Int)) := rem_first m n
  have hQ0 : divQ m n 0 < 9007199254740992 := by rw [divQ_zero]; exact Nat.lt_of_le_of_lt (Nat.div_le_self m n) hm
  have hstQ : Hid (∀ i, divQ m n (i + 1) = 2 * divQ m n i + divR m n i * 2 / n) := fun i => divQ_succ m n i hn0
  have hstR : Hid (∀ i, divR m n (i + 1) = divR m n i * 2 % n) := fun i => divR_succ m n i
  have hRl : Hid (∀ i, divR m n i < n) := fun i => divR_lt m n i hn0
  have hdl : Hid (∀ i, divR m n i * 2 / n ≤ 1) := fun i => digit_le m n i hn0
  go_enter Try.func9, Try.ntmps9
  go_wp2
  obtain ⟨W, hW⟩ : ∃ W : World, W = ((w.alloc (.cells #[.bool s, .int .i64 m, .int .i64 e, .int .i64 0] 26)).alloc (.cells #[.bool t, .int .i64 n, .int .i64 f, .int .i64 0] 26)) := ⟨_, rfl⟩
  rw [← hW, hqf.out, hrf.out]
  have hbW : Hid (Below w.heap.size w W) := by show Below _ _ _; rw [hW]; exact ((Below.refl _ _).alloc (Nat.le_refl _) _).alloc (by simp) _
  have hSH : Hid (W.cell? ⟨w.heap.size, 0, none⟩ = some (.bool s) ∧ W.cell? ⟨w.heap.size, 1, none⟩ = some (.int .i64 m) ∧ W.cell? ⟨w.heap.size, 2, none⟩ = some (.int .i64 e) ∧ W.cell? ⟨w.heap.size + 1, 0, none⟩ = some (.bool t) ∧ W.cell? ⟨w.heap.size + 1, 1, none⟩ = some (.int .i64 n) ∧ W.cell? ⟨w.heap.size + 1, 2, none⟩ = some (.int .i64 f)) := startAB hW
  have hsz : Hid (W.heap.size = w.heap.size + 1 + 1) := by show _ = _; rw [hW]; simp
  clear hW hqf hrf hm0
  have hdz : Hid (∀ Q k : Nat, Q < 9007199254740992 → 63 ≤ k → Q / 2 ^ k = 0) := fun Q k hQ hk => Nat.div_eq_of_lt (Nat.lt_of_lt_of_le (Nat.lt_of_lt_of_le hQ (by decide : (9007199254740992 : Nat) ≤ 2 ^ 63)) (Nat.pow_le_pow_right (by decide) hk))
  go_loopw [6, 8] (fun d q wr => ∃ (j g cap : Nat), j ≤ 63 ∧ q = .int .i64 ((divQ m n 0 / 2 ^ j : Nat) : Int) ∧ d = .slice (some ⟨g, 0, none⟩) j cap ∧ Hid (wr.ownsRow W.heap.size 2 1 d j (bitRow (divQ m n 0) j).reverse) ∧ Hid (Below W.heap.size W wr)) (fun _ q _ => (intOf q).toNat)
  case atStart =>
    refine ⟨0, _, 0, by omega, by simp, rfl, ?_, ?_⟩
    · show World.ownsRow _ _ _ _ _ _ _
      have := owns_empty W W.heap.size (Nat.le_refl _)
      rw [hsz.out] at this ⊢
      exact this
    · exact (Below.refl _ _).alloc (Nat.le_refl _) _
  case round =>
    obtain ⟨j, g, cap, hj, rfl, rfl, hown, hbel⟩ := hrel
    by_cases hx : divQ m n 0 / 2 ^ j = 0
    · have hjz : Hid (divQ m n 0 / 2 ^ j = 0) := hx
      rw [show (((divQ m n 0 / 2 ^ j : Nat)) : Int) = 0 by rw [hx]; rfl]
      obtain ⟨hT1, hT2, hT3, hT4, hT5, hT6⟩ := keepAB hSH.out hbel.out
      clear hx
      go_wp2
      clear hT1 hT2 hT3 hT4 hT5 hT6
      go_loopw [6, 7, 9, 10] (fun d r ev iv wq => ∃ (i g cap : Nat), i ≤ 110 ∧ iv = .int .i64 (i : Int) ∧ r = .int .i64 ((divR m n i : Nat) : Int) ∧ ev = .int .i64 (e - f - i) ∧ d = .slice (some ⟨g, 0, none⟩) (j + i) cap ∧ Hid (wq.ownsRow W.heap.size 2 1 d (j + i) (bitRow (divQ m n i) (j + i)).reverse) ∧ Hid (divQ m n i / 2 ^ (j + i) = 0) ∧ Hid (Below W.heap.size W wq)) (fun _ _ _ iv _ => 110 - (intOf iv).toNat)
      case atStart => exact ⟨0, g, cap, by omega, rfl, rfl, by simp, rfl, hown, hjz, hbel⟩
      case round =>
        obtain ⟨i, g, cap, hi, rfl, rfl, rfl, rfl, hown, hqz, hbel⟩ := hrel
        obtain ⟨hT1, hT2, hT3, hT4, hT5, hT6⟩ := keepAB hSH.out hbel.out
        by_cases hin : i < 110
        · have hin1 : (i : Int) < 110 := by omega
          have hr := hRl.out i
          have hd := hdl.out i
          have hdw : Hid (((divR m n i : Nat) : Int) * 2 / (n : Int) = ((divR m n i * 2 / n : Nat) : Int)) := digit_cast _ n
          have hlt : Hid (∀ k, (Value.slice (some ⟨g, 0, none⟩) (j + i) cap).ownBlock = some k → W.heap.size ≤ k) := fun k hk => (hown.out.lt k hk).1
          have hq1 : Hid (divQ m n (i + 1) = 2 * divQ m n i + divR m n i * 2 / n) := hstQ.out i
          have hr1 : Hid (divR m n (i + 1) = divR m n i * 2 % n) := hstR.out i
          have hrow : Hid ((bitRow (2 * divQ m n i + divR m n i * 2 / n) (j + i + 1)).reverse = (bitRow (divQ m n i) (j + i)).reverse ++ [.int .i64 ((divR m n i * 2 / n : Nat) : Int)]) := revRow_snoc _ _ _ hd
          have hnz' : Hid ((2 * divQ m n i + divR m n i * 2 / n) / 2 ^ (j + i + 1) = 0) := next_zero _ _ _ hd hqz.out
          generalize divR m n i = r at *
          clear hd
          go_wp2_with (at_builtin; refine wpList_append_own _ rfl (.tmp 102) (.tmp 107) 39 rfl W.heap.size 2 i0 (.int .i64 0) 1 8 Try.underlying39 hi0 hz0 hz1 hz2 rfl (by decide) _ (j + i) (bitRow (divQ m n i) (j + i)).reverse rfl (hown.out.alloc _) ⟨wr.heap.size, 0, none⟩ 1 1 [.int .i64 ((r : Int) * 2 / (n : Int))] rfl rfl (one_cell wr _) (one_one _) (by unfold maxLen; omega) (by omega) (by have := hbel.out.size; simp; omega) ?_; intro v' w1 hown' hgrow hx'; have hb1 := below_app hbel.out hbel.out.size hgrow hlt.out; have hU := (keepAB hSH.out hb1).2.2.2.2.1)
          obtain ⟨g', cap', rfl, hg1, hg2⟩ := owned_some (n := j + i) hown'
          have hown2 : Hid (w1.ownsRow W.heap.size 2 1 (.slice (some ⟨g', 0, none⟩) (j + i + 1) cap') (j + i + 1) (bitRow (divQ m n (i + 1)) (j + i + 1)).reverse) := by
            show World.ownsRow _ _ _ _ _ _ _
            rw [hq1.out, hrow.out, ← hdw.out]
            exact hown'
          clear hgrow hown hown'
          go_roundw
          case rel => exact ⟨i + 1, g', cap', by omega, by simp, by rw [hr1.out]; go_num, by go_num, rfl, hown2, by show _ = _; rw [hq1.out]; exact hnz'.out, hb1⟩
          case measure => first | (simp [intOf]; done) | (simp [intOf]; omega)
        · have h110 : i = 110 := by omega
          have hI : ((i : Nat) : Int) = 110 := by omega
          rw [hI]
          clear hI
          have h110H : Hid (i = 110) := h110
          have hi3 : 110 ≤ i := by omega
          clear h110 hin
          have hcells : Hid (∀ p, p < j + i → wr.cell? ⟨g, p, none⟩ = some (.int .i64 ((divQ m n i / 2 ^ (j + i - 1 - p) % 2 : Nat) : Int))) := fun p hp => by
            have h := hown.out.cells rfl p _ (revRow_at (divQ m n i) (j + i) p hp)
            have hadd : (⟨g, 0, none⟩ : Addr).add p = ⟨g, p, none⟩ := by unfold Addr.add; split <;> simp_all
            rwa [hadd] at h
          have hgl : Hid (g < wr.heap.size) := (hown.out.lt g rfl).2
          obtain ⟨Q, hQ⟩ : ∃ Q, divQ m n i = Q := ⟨_, rfl⟩
          rw [hQ] at hcells hqz
          have hQH : Hid (divQ m n 110 = Q) := by show _ = _; rw [← h110H.out]; exact hQ
          clear hown hQ hT1 hT2 hT3 hT4 hT5 hT6
          obtain ⟨wq, hwq⟩ : ∃ wq : World, wq = wr := ⟨_, rfl⟩
          subst hwq
          go_wp2
          go_loopw [11, 12] (fun z iv wz => ∃ p : Nat, p ≤ j + i ∧ iv = .int .i64 ((p : Int) - 1) ∧ Hid (wz.ownsRow wq.heap.size 2 1 z (j + i - p) (bitRow Q (j + i - p))) ∧ Hid (Below wq.heap.size wq wz)) (fun _ iv _ => (intOf iv + 1).toNat)
          case atStart =>
            refine ⟨j + i, by omega, by go_num, ?_, (Below.refl _ _).alloc (Nat.le_refl _) _⟩
            show World.ownsRow _ _ _ _ _ _ _
            rw [Nat.sub_self]
            exact owns_empty wq wq.heap.size (Nat.le_refl _)
          case round =>
            obtain ⟨p, hp, rfl, hown, hbz⟩ := hrel
            by_cases hp0 : p = 0
            · subst hp0
              rw [show (((0 : Nat) : Int) - 1) = -1 by rfl]
              have hz : Hid (RowB wr u11 (j + i) Q) := rowB_own hqz.out (by omega) hown.out
              have hB : Hid (Below w.heap.size w wr) := (hbW.out.trans (hbel.out.mono hbW.out.size)).trans (hbz.out.mono (Nat.le_trans hbW.out.size hbel.out.size))
              clear hown
              have hRi : Hid (decide (0 < divR m n 110) = decide (0 < divR m n i)) := by show _ = _; rw [h110H.out]
              go_wp2_with (go_at_call 16; refine (round_row _ _ u11 (j + i) Q (e - f - 110) _ (by omega) (by omega) hz.out).mono ?_; rintro e4 w6 ⟨rfl, hw6⟩; subst w6)
              go_ret
              exact ⟨by rw [hRi.out, hQH.out]; rfl, hB.out⟩
            · obtain ⟨p, rfl⟩ : ∃ p', p = p' + 1 := ⟨p - 1, by omega⟩
              rw [show (((p + 1 : Nat) : Int) - 1) = (p : Int) by omega]
              have hcell := keep1 (hcells.out p (by omega)) hbz.out
              have hpl : (p : Int) < ((j + i : Nat) : Int) := by omega
              have hp00 : (0 : Int) ≤ p := by omega
              have hrow : Hid (bitRow Q (j + i - p) = bitRow Q (j + i - (p + 1)) ++ [.int .i64 ((Q / 2 ^ (j + i - 1 - p) % 2 : Nat) : Int)]) := by
                show _ = _
                rw [show j + i - p = j + i - (p + 1) + 1 by omega, bitRow_succ, show j + i - (p + 1) = j + i - 1 - p by omega]
              generalize Q / 2 ^ (j + i - 1 - p) % 2 = bt at *
              have hlt := hown.out.lt
              have hltH : Hid _ := hlt
              clear hlt
              go_wp2_with (at_builtin; refine wpList_append_own _ rfl (.tmp 121) (.tmp 126) 39 rfl wq.heap.size 2 i0 (.int .i64 0) 1 8 Try.underlying39 hi0 hz0 hz1 hz2 rfl (by decide) _ (j + i - (p + 1)) (bitRow Q (j + i - (p + 1))) rfl (hown.out.alloc _) ⟨wr.heap.size, 0, none⟩ 1 1 [.int .i64 (bt : Int)] rfl rfl (one_cell wr _) (one_one _) (by unfold maxLen; omega) (by omega) (by have := hbz.out.size; simp; omega) ?_; intro v' w1 hown' hgrow hx'; have hb1 := below_app hbz.out hbz.out.size hgrow (fun k hk => (hltH.out k hk).1))
              have hown2 : Hid (w1.ownsRow wq.heap.size 2 1 v' (j + i - p) (bitRow Q (j + i - p))) := by
                show World.ownsRow _ _ _ _ _ _ _
                rw [hrow.out, show j + i - p = j + i - (p + 1) + 1 by omega]
                exact hown'
              clear hgrow hown hown'
              go_roundw
              case rel => exact ⟨p, by omega, rfl, hown2, hb1⟩
              case measure => first | (simp [intOf]; done) | (simp [intOf]; omega)
    · have hj2 : j < 63 := by
        rcases Nat.lt_or_ge j 63 with h | h
        · exact h
        · exact absurd (hdz.out _ _ hQ0 h) hx
      have hle : divQ m n 0 / 2 ^ j ≤ divQ m n 0 := Nat.div_le_self _ _
      have hdiv : Hid (divQ m n 0 / 2 ^ (j + 1) = divQ m n 0 / 2 ^ j / 2) := half_pow _ _
      have hrow : Hid ((bitRow (divQ m n 0) (j + 1)).reverse = .int .i64 ((divQ m n 0 / 2 ^ j % 2 : Nat) : Int) :: (bitRow (divQ m n 0) j).reverse) := revRow_cons _ j
      generalize divQ m n 0 / 2 ^ j = x at *
      have hpos : 0 < x := by omega
      have hbd : x ≤ 9223372036854775807 := by omega
      clear hx hle
      have hnews : Hid (∀ (o : Obj) i u, (bitRow (divQ m n 0) j).reverse[i]? = some u → (wr.alloc o).cell? ((⟨g, 0, none⟩ : Addr).add i) = some u) := fun o i u hu => (hown.out.alloc o).cells rfl i u hu
      have hlen : Hid ((bitRow (divQ m n 0) j).reverse.length = j * 1) := by show _ = _; simp [bitRow_length]
      go_wp2_with (at_builtin; refine wpList_append_own _ rfl (.tmp 86) (.tmp 87) 39 rfl W.heap.size 2 i0 (.int .i64 0) 1 8 Try.underlying39 hi0 hz0 hz1 hz2 rfl (by decide) _ 1 [.int .i64 ((x % 2 : Nat) : Int)] rfl (owns_one wr _ W.heap.size hbel.out.size) ⟨g, 0, none⟩ j cap (bitRow (divQ m n 0) j).reverse rfl hlen.out (hnews.out _) (revRow_one _ j) (by unfold maxLen; omega) (by omega) (by have := hbel.out.size; simp; omega) ?_; intro v' w1 hown' hgrow _)
      obtain ⟨g', cap', rfl, hg1, hg2⟩ := owned_some (n := j) (by rw [Nat.add_comm]; exact hown')
      have hb1 : Below W.heap.size W w1 := (hbel.out.alloc hbel.out.size _).grown hgrow (by have := hbel.out.size; simp; omega) (fun k hk => by have h1 : wr.heap.size = k := Option.some.inj hk; have := hbel.out.size; omega)
      have hown2 : Hid (w1.ownsRow W.heap.size 2 1 (.slice (some ⟨g', 0, none⟩) (j + 1) cap') (j + 1) (bitRow (divQ m n 0) (j + 1)).reverse) := by
        show World.ownsRow _ _ _ _ _ _ _
        rw [hrow.out]
        rw [show 1 + j = j + 1 by omega] at hown'
        exact hown'
      clear hgrow hown hown' hnews
      go_wp2
      go_roundw
      case rel => exact ⟨j + 1, g', cap', by omega, by rw [hdiv.out]; go_num, rfl, hown2, hb1⟩
      case measure => simp [intOf]; omega
set_option maxRecDepth 100000 in
set_option maxHeartbeats 2000000 in
theorem divFinZ (s t : Bool) (m n : Nat) (e f : Int) (hm : m < 9007199254740992) (hn : n < 9007199254740992) (hn0 : n ≠ 0) (hm0 : ((m : Int) == 0) = true) (he : -1074 ≤ e) (he2 : e ≤ 1000) (hf : -1074 ≤ f) (hf2 : f ≤ 1000) (w : World) :
    Calls Try.prog 9 #[.agg (real s m e 0), .agg (real t n f 0)] w fun r w' => r = .returned (.int .i64 (signedOf (!s == t) ((rndOf (divQ m n 110) (e - f - 110) (decide (0 < divR m n 110)) : Nat) : Int))) ∧ Below w.heap.size w w' := by
  obtain ⟨i0, hi0⟩ : ∃ i, Try.prog.info? 2 = some i := Option.isSome_iff_exists.1 (by kernel_rfl)
  have hz0 : i0.zero = some (.int .i64 0) := by have : (Try.prog.info? 2).bind (·.zero) = some (.int .i64 0) := by kernel_rfl
                                                rw [hi0] at this; exact this
  have hz1 : i0.size = 1 := by have : (Try.prog.info? 2).map (·.size) = some 1 := by kernel_rfl
                               rw [hi0] at this; exact Option.some.inj this
  have hz2 : i0.bytes = 8 := by have : (Try.prog.info? 2).map (·.bytes) = some 8 := by kernel_rfl
                                rw [hi0] at this; exact Option.some.inj this
  unfold real
  have hnz : ((n : Int) == 0) = false := by simp; omega
  have hnp : (0 : Int) < n := by omega
  have hqf : Hid (wrap64 ((m : Int) / (n : Int)) = ((divQ m n 0 : Nat) : Int)) := quo_first m n hm
  have hrf : Hid ((m : Int) % (n : Int) = ((divR m n 0 : Nat) : Int)) := rem_first m n
  have hQ0 : divQ m n 0 < 9007199254740992 := by rw [divQ_zero]; exact Nat.lt_of_le_of_lt (Nat.div_le_self m n) hm
  have hstQ : Hid (∀ i, divQ m n (i + 1) = 2 * divQ m n i + divR m n i * 2 / n) := fun i => divQ_succ m n i hn0
  have hstR : Hid (∀ i, divR m n (i + 1) = divR m n i * 2 % n) := fun i => divR_succ m n i
  have hRl : Hid (∀ i, divR m n i < n) := fun i => divR_lt m n i hn0
  have hdl : Hid (∀ i, divR m n i * 2 / n ≤ 1) := fun i => digit_le m n i hn0
  go_enter Try.func9, Try.ntmps9
  go_wp2
  obtain ⟨W, hW⟩ : ∃ W : World, W = ((w.alloc (.cells #[.bool s, .int .i64 m, .int .i64 e, .int .i64 0] 26)).alloc (.cells #[.bool t, .int .i64 n, .int .i64 f, .int .i64 0] 26)) := ⟨_, rfl⟩
  rw [← hW, hqf.out, hrf.out]
  have hbW : Hid (Below w.heap.size w W) := by show Below _ _ _; rw [hW]; exact ((Below.refl _ _).alloc (Nat.le_refl _) _).alloc (by simp) _
  have hSH : Hid (W.cell? ⟨w.heap.size, 0, none⟩ = some (.bool s) ∧ W.cell? ⟨w.heap.size, 1, none⟩ = some (.int .i64 m) ∧ W.cell? ⟨w.heap.size, 2, none⟩ = some (.int .i64 e) ∧ W.cell? ⟨w.heap.size + 1, 0, none⟩ = some (.bool t) ∧ W.cell? ⟨w.heap.size + 1, 1, none⟩ = some (.int .i64 n) ∧ W.cell? ⟨w.heap.size + 1, 2, none⟩ = some (.int .i64 f)) := startAB hW
  have hsz : Hid (W.heap.size = w.heap.size + 1 + 1) := by show _ = _; rw [hW]; simp
  clear hW hqf hrf hm0
  have hdz : Hid (∀ Q k : Nat, Q < 9007199254740992 → 63 ≤ k → Q / 2 ^ k = 0) := fun Q k hQ hk => Nat.div_eq_of_lt (Nat.lt_of_lt_of_le (Nat.lt_of_lt_of_le hQ (by decide : (9007199254740992 : Nat) ≤ 2 ^ 63)) (Nat.pow_le_pow_right (by decide) hk))
  go_loopw [6, 8] (fun d q wr => ∃ (j g cap : Nat), j ≤ 63 ∧ q = .int .i64 ((divQ m n 0 / 2 ^ j : Nat) : Int) ∧ d = .slice (some ⟨g, 0, none⟩) j cap ∧ Hid (wr.ownsRow W.heap.size 2 1 d j (bitRow (divQ m n 0) j).reverse) ∧ Hid (Below W.heap.size W wr)) (fun _ q _ => (intOf q).toNat)
  case atStart =>
    refine ⟨0, _, 0, by omega, by simp, rfl, ?_, ?_⟩
    · show World.ownsRow _ _ _ _ _ _ _
      have := owns_empty W W.heap.size (Nat.le_refl _)
      rw [hsz.out] at this ⊢
      exact this
    · exact (Below.refl _ _).alloc (Nat.le_refl _) _
  case round =>
    obtain ⟨j, g, cap, hj, rfl, rfl, hown, hbel⟩ := hrel
    by_cases hx : divQ m n 0 / 2 ^ j = 0
    · have hjz : Hid (divQ m n 0 / 2 ^ j = 0) := hx
      rw [show (((divQ m n 0 / 2 ^ j : Nat)) : Int) = 0 by rw [hx]; rfl]
      obtain ⟨hT1, hT2, hT3, hT4, hT5, hT6⟩ := keepAB hSH.out hbel.out
      clear hx
      go_wp2
      clear hT1 hT2 hT3 hT4 hT5 hT6
      go_loopw [6, 7, 9, 10] (fun d r ev iv wq => ∃ (i g cap : Nat), i ≤ 110 ∧ iv = .int .i64 (i : Int) ∧ r = .int .i64 ((divR m n i : Nat) : Int) ∧ ev = .int .i64 (e - f - i) ∧ d = .slice (some ⟨g, 0, none⟩) (j + i) cap ∧ Hid (wq.ownsRow W.heap.size 2 1 d (j + i) (bitRow (divQ m n i) (j + i)).reverse) ∧ Hid (divQ m n i / 2 ^ (j + i) = 0) ∧ Hid (Below W.heap.size W wq)) (fun _ _ _ iv _ => 110 - (intOf iv).toNat)
      case atStart => exact ⟨0, g, cap, by omega, rfl, rfl, by simp, rfl, hown, hjz, hbel⟩
      case round =>
        obtain ⟨i, g, cap, hi, rfl, rfl, rfl, rfl, hown, hqz, hbel⟩ := hrel
        obtain ⟨hT1, hT2, hT3, hT4, hT5, hT6⟩ := keepAB hSH.out hbel.out
        by_cases hin : i < 110
        · have hin1 : (i : Int) < 110 := by omega
          have hr := hRl.out i
          have hd := hdl.out i
          have hdw : Hid (((divR m n i : Nat) : Int) * 2 / (n : Int) = ((divR m n i * 2 / n : Nat) : Int)) := digit_cast _ n
          have hlt : Hid (∀ k, (Value.slice (some ⟨g, 0, none⟩) (j + i) cap).ownBlock = some k → W.heap.size ≤ k) := fun k hk => (hown.out.lt k hk).1
          have hq1 : Hid (divQ m n (i + 1) = 2 * divQ m n i + divR m n i * 2 / n) := hstQ.out i
          have hr1 : Hid (divR m n (i + 1) = divR m n i * 2 % n) := hstR.out i
          have hrow : Hid ((bitRow (2 * divQ m n i + divR m n i * 2 / n) (j + i + 1)).reverse = (bitRow (divQ m n i) (j + i)).reverse ++ [.int .i64 ((divR m n i * 2 / n : Nat) : Int)]) := revRow_snoc _ _ _ hd
          have hnz' : Hid ((2 * divQ m n i + divR m n i * 2 / n) / 2 ^ (j + i + 1) = 0) := next_zero _ _ _ hd hqz.out
          generalize divR m n i = r at *
          clear hd
          go_wp2_with (at_builtin; refine wpList_append_own _ rfl (.tmp 102) (.tmp 107) 39 rfl W.heap.size 2 i0 (.int .i64 0) 1 8 Try.underlying39 hi0 hz0 hz1 hz2 rfl (by decide) _ (j + i) (bitRow (divQ m n i) (j + i)).reverse rfl (hown.out.alloc _) ⟨wr.heap.size, 0, none⟩ 1 1 [.int .i64 ((r : Int) * 2 / (n : Int))] rfl rfl (one_cell wr _) (one_one _) (by unfold maxLen; omega) (by omega) (by have := hbel.out.size; simp; omega) ?_; intro v' w1 hown' hgrow hx'; have hb1 := below_app hbel.out hbel.out.size hgrow hlt.out; have hU := (keepAB hSH.out hb1).2.2.2.2.1)
          obtain ⟨g', cap', rfl, hg1, hg2⟩ := owned_some (n := j + i) hown'
          have hown2 : Hid (w1.ownsRow W.heap.size 2 1 (.slice (some ⟨g', 0, none⟩) (j + i + 1) cap') (j + i + 1) (bitRow (divQ m n (i + 1)) (j + i + 1)).reverse) := by
            show World.ownsRow _ _ _ _ _ _ _
            rw [hq1.out, hrow.out, ← hdw.out]
            exact hown'
          clear hgrow hown hown'
          go_roundw
          case rel => exact ⟨i + 1, g', cap', by omega, by simp, by rw [hr1.out]; go_num, by go_num, rfl, hown2, by show _ = _; rw [hq1.out]; exact hnz'.out, hb1⟩
          case measure => first | (simp [intOf]; done) | (simp [intOf]; omega)
        · have h110 : i = 110 := by omega
          have hI : ((i : Nat) : Int) = 110 := by omega
          rw [hI]
          clear hI
          have h110H : Hid (i = 110) := h110
          have hi3 : 110 ≤ i := by omega
          clear h110 hin
          have hcells : Hid (∀ p, p < j + i → wr.cell? ⟨g, p, none⟩ = some (.int .i64 ((divQ m n i / 2 ^ (j + i - 1 - p) % 2 : Nat) : Int))) := fun p hp => by
            have h := hown.out.cells rfl p _ (revRow_at (divQ m n i) (j + i) p hp)
            have hadd : (⟨g, 0, none⟩ : Addr).add p = ⟨g, p, none⟩ := by unfold Addr.add; split <;> simp_all
            rwa [hadd] at h
          have hgl : Hid (g < wr.heap.size) := (hown.out.lt g rfl).2
          obtain ⟨Q, hQ⟩ : ∃ Q, divQ m n i = Q := ⟨_, rfl⟩
          rw [hQ] at hcells hqz
          have hQH : Hid (divQ m n 110 = Q) := by show _ = _; rw [← h110H.out]; exact hQ
          clear hown hQ hT1 hT2 hT3 hT4 hT5 hT6
          obtain ⟨wq, hwq⟩ : ∃ wq : World, wq = wr := ⟨_, rfl⟩
          subst hwq
          go_wp2
          go_loopw [11, 12] (fun z iv wz => ∃ p : Nat, p ≤ j + i ∧ iv = .int .i64 ((p : Int) - 1) ∧ Hid (wz.ownsRow wq.heap.size 2 1 z (j + i - p) (bitRow Q (j + i - p))) ∧ Hid (Below wq.heap.size wq wz)) (fun _ iv _ => (intOf iv + 1).toNat)
          case atStart =>
            refine ⟨j + i, by omega, by go_num, ?_, (Below.refl _ _).alloc (Nat.le_refl _) _⟩
            show World.ownsRow _ _ _ _ _ _ _
            rw [Nat.sub_self]
            exact owns_empty wq wq.heap.size (Nat.le_refl _)
          case round =>
            obtain ⟨p, hp, rfl, hown, hbz⟩ := hrel
            by_cases hp0 : p = 0
            · subst hp0
              rw [show (((0 : Nat) : Int) - 1) = -1 by rfl]
              have hz : Hid (RowB wr u11 (j + i) Q) := rowB_own hqz.out (by omega) hown.out
              have hB : Hid (Below w.heap.size w wr) := (hbW.out.trans (hbel.out.mono hbW.out.size)).trans (hbz.out.mono (Nat.le_trans hbW.out.size hbel.out.size))
              clear hown
              have hRi : Hid (decide (0 < divR m n 110) = decide (0 < divR m n i)) := by show _ = _; rw [h110H.out]
              go_wp2_with (go_at_call 16; refine (round_row _ _ u11 (j + i) Q (e - f - 110) _ (by omega) (by omega) hz.out).mono ?_; rintro e4 w6 ⟨rfl, hw6⟩; subst w6)
              go_ret
              exact ⟨by rw [hRi.out, hQH.out]; rfl, hB.out⟩
            · obtain ⟨p, rfl⟩ : ∃ p', p = p' + 1 := ⟨p - 1, by omega⟩
              rw [show (((p + 1 : Nat) : Int) - 1) = (p : Int) by omega]
              have hcell := keep1 (hcells.out p (by omega)) hbz.out
              have hpl : (p : Int) < ((j + i : Nat) : Int) := by omega
              have hp00 : (0 : Int) ≤ p := by omega
              have hrow : Hid (bitRow Q (j + i - p) = bitRow Q (j + i - (p + 1)) ++ [.int .i64 ((Q / 2 ^ (j + i - 1 - p) % 2 : Nat) : Int)]) := by
                show _ = _
                rw [show j + i - p = j + i - (p + 1) + 1 by omega, bitRow_succ, show j + i - (p + 1) = j + i - 1 - p by omega]
              generalize Q / 2 ^ (j + i - 1 - p) % 2 = bt at *
              have hlt := hown.out.lt
              have hltH : Hid _ := hlt
              clear hlt
              go_wp2_with (at_builtin; refine wpList_append_own _ rfl (.tmp 121) (.tmp 126) 39 rfl wq.heap.size 2 i0 (.int .i64 0) 1 8 Try.underlying39 hi0 hz0 hz1 hz2 rfl (by decide) _ (j + i - (p + 1)) (bitRow Q (j + i - (p + 1))) rfl (hown.out.alloc _) ⟨wr.heap.size, 0, none⟩ 1 1 [.int .i64 (bt : Int)] rfl rfl (one_cell wr _) (one_one _) (by unfold maxLen; omega) (by omega) (by have := hbz.out.size; simp; omega) ?_; intro v' w1 hown' hgrow hx'; have hb1 := below_app hbz.out hbz.out.size hgrow (fun k hk => (hltH.out k hk).1))
              have hown2 : Hid (w1.ownsRow wq.heap.size 2 1 v' (j + i - p) (bitRow Q (j + i - p))) := by
                show World.ownsRow _ _ _ _ _ _ _
                rw [hrow.out, show j + i - p = j + i - (p + 1) + 1 by omega]
                exact hown'
              clear hgrow hown hown'
              go_roundw
              case rel => exact ⟨p, by omega, rfl, hown2, hb1⟩
              case measure => first | (simp [intOf]; done) | (simp [intOf]; omega)
    · have hj2 : j < 63 := by
        rcases Nat.lt_or_ge j 63 with h | h
        · exact h
        · exact absurd (hdz.out _ _ hQ0 h) hx
      have hle : divQ m n 0 / 2 ^ j ≤ divQ m n 0 := Nat.div_le_self _ _
      have hdiv : Hid (divQ m n 0 / 2 ^ (j + 1) = divQ m n 0 / 2 ^ j / 2) := half_pow _ _
      have hrow : Hid ((bitRow (divQ m n 0) (j + 1)).reverse = .int .i64 ((divQ m n 0 / 2 ^ j % 2 : Nat) : Int) :: (bitRow (divQ m n 0) j).reverse) := revRow_cons _ j
      generalize divQ m n 0 / 2 ^ j = x at *
      have hpos : 0 < x := by omega
      have hbd : x ≤ 9223372036854775807 := by omega
      clear hx hle
      have hnews : Hid (∀ (o : Obj) i u, (bitRow (divQ m n 0) j).reverse[i]? = some u → (wr.alloc o).cell? ((⟨g, 0, none⟩ : Addr).add i) = some u) := fun o i u hu => (hown.out.alloc o).cells rfl i u hu
      have hlen : Hid ((bitRow (divQ m n 0) j).reverse.length = j * 1) := by show _ = _; simp [bitRow_length]
      go_wp2_with (at_builtin; refine wpList_append_own _ rfl (.tmp 86) (.tmp 87) 39 rfl W.heap.size 2 i0 (.int .i64 0) 1 8 Try.underlying39 hi0 hz0 hz1 hz2 rfl (by decide) _ 1 [.int .i64 ((x % 2 : Nat) : Int)] rfl (owns_one wr _ W.heap.size hbel.out.size) ⟨g, 0, none⟩ j cap (bitRow (divQ m n 0) j).reverse rfl hlen.out (hnews.out _) (revRow_one _ j) (by unfold maxLen; omega) (by omega) (by have := hbel.out.size; simp; omega) ?_; intro v' w1 hown' hgrow _)
      obtain ⟨g', cap', rfl, hg1, hg2⟩ := owned_some (n := j) (by rw [Nat.add_comm]; exact hown')
      have hb1 : Below W.heap.size W w1 := (hbel.out.alloc hbel.out.size _).grown hgrow (by have := hbel.out.size; simp; omega) (fun k hk => by have h1 : wr.heap.size = k := Option.some.inj hk; have := hbel.out.size; omega)
      have hown2 : Hid (w1.ownsRow W.heap.size 2 1 (.slice (some ⟨g', 0, none⟩) (j + 1) cap') (j + 1) (bitRow (divQ m n 0) (j + 1)).reverse) := by
        show World.ownsRow _ _ _ _ _ _ _
        rw [hrow.out]
        rw [show 1 + j = j + 1 by omega] at hown'
        exact hown'
      clear hgrow hown hown' hnews
      go_wp2
      go_roundw
      case rel => exact ⟨j + 1, g', cap', by omega, by rw [hdiv.out]; go_num, rfl, hown2, hb1⟩
      case measure => simp [intOf]; omega

theorem divFin_calls (s t : Bool) (m n : Nat) (e f : Int) (hm : m < 9007199254740992) (hn : n < 9007199254740992) (hn0 : n ≠ 0) (he : -1074 ≤ e) (he2 : e ≤ 1000) (hf : -1074 ≤ f) (hf2 : f ≤ 1000) (w : World) :
    Calls Try.prog 9 #[.agg (real s m e 0), .agg (real t n f 0)] w fun r w' => r = .returned (.int .i64 (signedOf (!s == t) ((rndOf (divQ m n 110) (e - f - 110) (decide (0 < divR m n 110)) : Nat) : Int))) ∧ Below w.heap.size w w' := by
  by_cases h : m = 0
  · exact divFinZ s t m n e f hm hn hn0 (by simp [h]) he he2 hf hf2 w
  · exact divFinN s t m n e f hm hn hn0 (by simp; omega) he he2 hf hf2 w

end Go.Proofs.Ytjkmoggajpkdeaa
