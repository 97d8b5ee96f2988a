/- Objects compared and looked at. -/
import Derived.Test.YtcigiilhlealdaaMaD
namespace Go.Proofs.Ytcigiilhlealdaa
set_option linter.unusedVariables false
open Go.ChangeShapes Go.WideShapes Go.ChangeAt Go.RowKit

/-- A row of objects, to be read. -/
structure ObjR (lo hi : Nat) (w : World) (v : Value) (xs : List ObP) : Prop where
  form : ∃ a c, v = .slice a xs.length c
  at_ : ∀ j (hj : j < xs.length), ∃ b o c gv, v = .slice (some ⟨b, o, none⟩) xs.length c ∧ lo ≤ b ∧ b < hi ∧ (∀ i u, [Value.int .i64 xs[j].id, gv, .int .i64 xs[j].col][i]? = some u → w.cell? ⟨b, o + j * 3 + i, none⟩ = some u) ∧ IntsAt lo hi w gv xs[j].flds
theorem ObjR.kept {lo hi : Nat} {w w' : World} {v : Value} {xs : List ObP} (h : ObjR lo hi w v xs) (hs : Same lo hi w w') : ObjR lo hi w' v xs := ⟨h.form, fun j hj => by
  obtain ⟨b, o, c, gv, h1, h2, h3, h4, h5⟩ := h.at_ j hj
  exact ⟨b, o, c, gv, h1, h2, h3, fun i u hu => by rw [(hs ⟨b, o + j * 3 + i, none⟩ h2 h3).1]; exact h4 i u hu, h5.kept hs⟩⟩
theorem ObjX.read {lo hi : Nat} {w : World} {v : Value} {xs : List ObP} {b c : Nat} {gs : List Value} (h : ObjX lo hi w v xs b c gs) : ObjR lo hi w v xs := ⟨⟨_, _, h.form⟩, fun j hj => by
  obtain ⟨g, e, r, i⟩ := h.cells j hj
  exact ⟨b, 0, c, g, h.form, h.bd.1, h.bd.2.1, fun k u hu => by rw [Nat.zero_add]; exact r k u hu, i⟩⟩
set_option maxRecDepth 100000 in
set_option maxHeartbeats 1000000 in
theorem eqObj_calls (x : ObP) (g1 g2 : Value) (w : World) (lo1 hi1 lo2 hi2 : Nat) (h1 : IntsAt lo1 hi1 w g1 x.flds) (h2 : IntsAt lo2 hi2 w g2 x.flds) (hh1 : hi1 ≤ w.heap.size) (hh2 : hi2 ≤ w.heap.size) (hn : x.flds.length ≤ 6) :
    Calls Try.prog 64 #[.agg #[.int .i64 x.id, g1, .int .i64 x.col], .agg #[.int .i64 x.id, g2, .int .i64 x.col]] w fun e w' => e = .returned (.bool true) ∧ Below w.heap.size w w' := by
  have hq : Hid (∀ W, Below w.heap.size w W → Calls Try.prog 42 #[g1, g2] W fun e w' => e = .returned (.bool true) ∧ ∃ n, w' = W.drewN n) := fun W hW => eqInts_calls g1 g2 x.flds W lo1 hi1 lo2 hi2 (h1.kept ((Same.below hW).mono (Nat.zero_le _) hh1)) (h2.kept ((Same.below hW).mono (Nat.zero_le _) hh2)) (by omega)
  obtain ⟨a1, c1, rfl⟩ := h1.form
  obtain ⟨a2, c2, rfl⟩ := h2.form
  obtain ⟨id, flds, col⟩ := x
  simp only at hq hn ⊢
  generalize flds.length = gl at *
  have hb : Hid (Below w.heap.size w ((w.alloc (.cells #[.int .i64 id, .slice a1 gl c1, .int .i64 col] 62)).alloc (.cells #[.int .i64 id, .slice a2 gl c2, .int .i64 col] 62))) := below_on2 (below_1 _ _) (below_1 _ _)
  clear h1 h2 hh1 hh2 hn
  go_enter Try.func64, Try.ntmps64
  go_wp2_with (go_at_call 42; refine (show Calls _ _ _ _ _ from hq.out _ hb.out).mono ?_; rintro e w1 ⟨rfl, n1, hw⟩; have hwH : Hid _ := hw; subst hw)
  go_ret
  exact ⟨rfl, by exact below_on2 hb.out (below_drewN (Below.refl _ _) _)⟩
set_option maxRecDepth 100000 in
set_option maxHeartbeats 1000000 in
theorem eqObjS_calls (u v : Value) (xs : List ObP) (w : World) (lo1 hi1 lo2 hi2 : Nat) (hh1 : hi1 ≤ w.heap.size) (hh2 : hi2 ≤ w.heap.size) (hu : ObjR lo1 hi1 w u xs) (hv : ObjR lo2 hi2 w v xs) (hn : xs.length ≤ 400) (hg : ∀ x ∈ xs, x.flds.length ≤ 6) :
    Calls Try.prog 41 #[u, v] w fun e w' => e = .returned (.bool true) ∧ Below w.heap.size w w' := by
  obtain ⟨a1, c1, rfl⟩ := hu.form
  obtain ⟨a2, c2, rfl⟩ := hv.form
  have huH : Hid (∀ W, Below w.heap.size w W → ObjR lo1 hi1 W (.slice a1 xs.length c1) xs) := fun W hW => hu.kept ((Same.below hW).mono (Nat.zero_le _) hh1)
  have hvH : Hid (∀ W, Below w.heap.size w W → ObjR lo2 hi2 W (.slice a2 xs.length c2) xs) := fun W hW => hv.kept ((Same.below hW).mono (Nat.zero_le _) hh2)
  have hgH : Hid (∀ x ∈ xs, x.flds.length ≤ 6) := hg
  have hhH : Hid (hi1 ≤ w.heap.size ∧ hi2 ≤ w.heap.size) := ⟨hh1, hh2⟩
  have hn' : (xs.length : Int) ≤ 400 := by omega
  clear hu hv hg hh1 hh2
  go_enter Try.func41, Try.ntmps41
  go_wp2
  go_loopw [5] (fun i wr => ∃ m : Nat, m ≤ xs.length ∧ i = .int .i64 m ∧ Hid (Below w.heap.size w wr)) (fun i _ => xs.length - (intOf i).toNat)
  case atStart => exact ⟨0, Nat.zero_le _, rfl, Below.refl _ _⟩
  case round =>
    obtain ⟨m, hm, rfl, hB⟩ := hrel
    have hm0 : (0 : Int) ≤ m := by omega
    by_cases hlt : m < xs.length
    · have hlt' : (m : Int) < (xs.length : Int) := by omega
      obtain ⟨b1, o1, d1, g1, e1, _, _, r1, i1⟩ := (huH.out wr hB.out).at_ m hlt
      obtain ⟨b2, o2, d2, g2, e2, _, _, r2, i2⟩ := (hvH.out wr hB.out).at_ m hlt
      injection e1 with e1 _ ec1
      injection e2 with e2 _ ec2
      subst e1
      subst e2
      subst ec1
      subst ec2
      have hsz := hB.out.size
      have heq : Hid (Calls Try.prog 64 #[.agg #[.int .i64 xs[m].id, g1, .int .i64 xs[m].col], .agg #[.int .i64 xs[m].id, g2, .int .i64 xs[m].col]] wr.drew fun e w' => e = .returned (.bool true) ∧ Below wr.heap.size wr w') := (eqObj_calls xs[m] g1 g2 wr.drew lo1 hi1 lo2 hi2 (i1.kept ((Same.below (Below.drew (Below.refl _ _))).mono (Nat.zero_le _) (by have := hhH.out.1; omega))) (i2.kept ((Same.below (Below.drew (Below.refl _ _))).mono (Nat.zero_le _) (by have := hhH.out.2; omega))) (by have := hhH.out.1; show _ ≤ wr.heap.size; omega) (by have := hhH.out.2; show _ ≤ wr.heap.size; omega) (hgH.out _ (List.getElem_mem hlt))).mono fun e w' q => ⟨q.1, below_on2 (Below.drew (Below.refl _ _)) q.2⟩
      have p0 := r1 0 _ rfl
      have p1 := r1 1 _ rfl
      have p2 := r1 2 _ rfl
      have q0 := r2 0 _ rfl
      have q1 := r2 1 _ rfl
      have q2 := r2 2 _ rfl
      rw [Nat.add_zero] at p0 q0
      obtain ⟨x1, y1, rfl⟩ := i1.form
      obtain ⟨x2, y2, rfl⟩ := i2.form
      have hBH : Hid (Below w.heap.size w wr) := hB
      clear r1 r2 i1 i2 hB hsz
      generalize xs[m] = x at *
      obtain ⟨id, flds, col⟩ := x
      simp only at p0 p1 p2 q0 q1 q2 heq
      generalize flds.length = gl at *
      go_wp2_with fail
      go_still_tail 8, (by kernel_rfl)
      go_wp2_with (go_at_call 64; refine (show Calls _ _ _ _ _ from heq.out).mono ?_; rintro e w1 ⟨rfl, hb1⟩; have hbH : Hid _ := below_on2 hBH.out hb1; clear hb1)
      go_roundw
      case rel => exact ⟨m + 1, by omega, by go_num, hbH⟩
      case measure => simp [intOf]; omega
    · have hge : ¬ ((m : Int) < (xs.length : Int)) := by omega
      go_wp2
      go_ret
      exact ⟨rfl, hB.out⟩
set_option maxRecDepth 100000 in
set_option maxHeartbeats 1000000 in
theorem heldObjS_calls (v : Value) (xs : List ObP) (k : Int) (w : World) (lo hi : Nat) (h : ObjR lo hi w v (markP k xs)) (hk0 : 0 ≤ k) (hk1 : k ≤ 1000000) (hn : xs.length ≤ 400) (hg : ∀ x ∈ xs, x.flds.length ≤ 6) :
    Calls Try.prog 44 #[v, .int .i64 k] w fun e w' => e = .returned (.int .i64 (k + szP xs)) ∧ w' = w := by
  obtain ⟨a, c, rfl⟩ := h.form
  rw [markP_length] at h ⊢
  have hH : Hid (ObjR lo hi w (.slice a xs.length c) (markP k xs)) := h
  have hgH : Hid (∀ x ∈ xs, x.flds.length ≤ 6) := hg
  have hsz := szP_bound xs hg
  have hn' : (xs.length : Int) ≤ 400 := by omega
  clear h hg
  go_enter Try.func44, Try.ntmps44
  go_wp2
  go_loopw [1, 5] (fun kv i wr => ∃ m : Nat, m ≤ xs.length ∧ kv = .int .i64 (k + szP (xs.take m)) ∧ i = .int .i64 m ∧ wr = w) (fun _ i _ => xs.length - (intOf i).toNat)
  case atStart => exact ⟨0, Nat.zero_le _, by simp [szP], rfl, rfl⟩
  case round =>
    obtain ⟨m, hm, rfl, rfl, hw⟩ := hrel
    have hw2 := hw.symm
    subst hw2
    clear hw
    have hm0 : (0 : Int) ≤ m := by omega
    by_cases hlt : m < xs.length
    · have hlt' : (m : Int) < (xs.length : Int) := by omega
      obtain ⟨b, o, d, g, e1, _, _, r1, i1⟩ := hH.out.at_ m (by rw [markP_length]; exact hlt)
      rw [markP_get xs k m hlt] at r1 i1
      injection e1 with e1 eln ec1
      clear eln
      subst e1
      subst ec1
      have hgl := hgH.out _ (List.getElem_mem hlt)
      have hst : Hid (szP (xs.take (m + 1)) = szP (xs.take m) + 2 + xs[m].flds.length) := szP_take xs m hlt
      have hle := szP_le xs m
      have hle2 := szP_le xs (m + 1)
      rw [hst.out] at hle2
      have hheld : Hid (Calls Try.prog 39 #[g, .int .i64 (k + szP (xs.take m) + 1)] w fun e w' => e = .returned (.int .i64 (k + szP (xs.take m) + 1 + (xs[m].flds.length : Nat))) ∧ w' = w) := heldInts_calls g xs[m].flds.length (k + szP (xs.take m) + 1) w lo hi i1 (by omega) (by omega) (by omega)
      have p0 := r1 0 _ rfl
      have p1 := r1 1 _ rfl
      have p2 := r1 2 _ rfl
      rw [Nat.add_zero] at p0
      obtain ⟨x1, y1, hgf⟩ := i1.form
      subst hgf
      clear r1 i1
      generalize xs[m].flds.length = gl at *
      generalize szP (xs.take m) = sm at *
      simp only [iota_length] at p0 p1 p2 hheld
      obtain ⟨kk, hkk⟩ : ∃ kk, kk = k + (sm : Int) := ⟨_, rfl⟩
      rw [← hkk] at p0 p2 hheld ⊢
      have hkkH : Hid (kk = k + (sm : Int)) := hkk
      have hkk0 : 0 ≤ kk := by omega
      have hkk1 : kk + 2 + gl ≤ 1500000 := by omega
      have hnn : ¬ (kk + 1 + (gl : Int) < 0) := by omega
      have hz1 : (kk != kk) = false := by simp
      have hz2 : (kk + 1 + gl != kk + 1 + gl) = false := by simp
      clear hkk hle hle2 hgl
      go_wp2_with (go_at_call 39; refine (show Calls _ _ _ _ _ from hheld.out).mono ?_; rintro e w1 ⟨rfl, hw1⟩; subst hw1)
      go_roundw
      case rel => exact ⟨m + 1, by omega, by rw [hst.out]; have := hkkH.out; congr 1; omega, by go_num, by first | trivial | rfl⟩
      case measure => simp [intOf]; omega
    · have hmE : m = xs.length := by omega
      have hge : ¬ ((m : Int) < (xs.length : Int)) := by omega
      subst hmE
      go_wp2
      go_ret
      exact ⟨by simp, by first | trivial | rfl⟩
end Go.Proofs.Ytcigiilhlealdaa
