/- spec.l2Only: the instruction with just what its op names. -/
import Derived.Test.YtcencddbdidjjaaGreatDoorInsD
namespace Go.Proofs.YtcencddbdidjjaaGreatDoor
set_option linter.unusedVariables false
open Go.ChangeShapes Go.WideShapes Go.ChangeAt Go.RowKit

/-- The nine cells with just what the op names. -/
def onlyV (o k a b : Int) (T C N Y : ByteArray) (v : Value) : Value :=
  if o = 1 ∨ o = 24 ∨ o = 4 ∨ o = 5 then insV o k a 0 ⟨#[]⟩ ⟨#[]⟩ ⟨#[]⟩ ⟨#[]⟩ (.slice none 0 0)
  else if o = 2 then insV o 0 0 0 T ⟨#[]⟩ ⟨#[]⟩ ⟨#[]⟩ (.slice none 0 0)
  else if o = 6 ∨ (26 ≤ o ∧ o ≤ 29) then insV o 0 a b ⟨#[]⟩ ⟨#[]⟩ ⟨#[]⟩ ⟨#[]⟩ (.slice none 0 0)
  else if o = 25 then insV o 0 a 0 ⟨#[]⟩ ⟨#[]⟩ ⟨#[]⟩ ⟨#[]⟩ (.slice none 0 0)
  else if o = 23 ∧ k = 3 then insV o k 0 b ⟨#[]⟩ ⟨#[]⟩ ⟨#[]⟩ ⟨#[]⟩ (.slice none 0 0)
  else if o = 23 then insV o k 0 0 ⟨#[]⟩ ⟨#[]⟩ ⟨#[]⟩ ⟨#[]⟩ (.slice none 0 0)
  else if o = 30 then insV o 0 a b ⟨#[]⟩ ⟨#[]⟩ ⟨#[]⟩ ⟨#[]⟩ v
  else if 31 ≤ o ∧ o ≤ 33 then insV o 0 0 b ⟨#[]⟩ C N Y (.slice none 0 0)
  else if o = 34 then insV o 0 0 0 ⟨#[]⟩ C ⟨#[]⟩ ⟨#[]⟩ (.slice none 0 0)
  else if o = 35 ∨ o = 39 ∨ o = 40 then insV o 0 0 0 ⟨#[]⟩ ⟨#[]⟩ ⟨#[]⟩ Y (.slice none 0 0)
  else if (o = 37 ∨ o = 38 ∨ o = 44) ∨ (11 ≤ o ∧ o ≤ 22) then insV o k 0 0 ⟨#[]⟩ ⟨#[]⟩ ⟨#[]⟩ ⟨#[]⟩ (.slice none 0 0)
  else insV o 0 0 0 ⟨#[]⟩ ⟨#[]⟩ ⟨#[]⟩ ⟨#[]⟩ (.slice none 0 0)

theorem heap_mid (w : World) (o1 o2 o3 : Obj) : (((w.alloc o1).alloc o2).alloc o3).heap[w.heap.size + 1]? = some o2 := by
  have h := heap_alloc2_old (w.alloc o1) o2 o3
  have e : (w.alloc o1).heap.size = w.heap.size + 1 := by simp
  rwa [e] at h
theorem below3 (w : World) (o1 o2 o3 : Obj) : Below w.heap.size w (((w.alloc o1).alloc o2).alloc o3) := (below2 w o1 o2).alloc (by simp; omega) _

set_option maxRecDepth 1000000 in
set_option maxHeartbeats 8000000 in
theorem only_calls (o k a b : Int) (T C N Y : ByteArray) (ta : Option Addr) (n c : Nat) (w : World) :
    Calls Tryz.prog 19 #[insV o k a b T C N Y (.slice ta n c)] w fun e w' => e = .returned (onlyV o k a b T C N Y (.slice ta n c)) ∧ Below w.heap.size w w' := by
  obtain ⟨r, hr⟩ : ∃ r, onlyV o k a b T C N Y (.slice ta n c) = r := ⟨_, rfl⟩
  rw [hr]
  have hrH : Hid (onlyV o k a b T C N Y (.slice ta n c) = r) := hr
  clear hr
  go_enter Tryz.func19, Tryz.ntmps19
  go_wp2
  all_goals (
    apply bodyPost_ret
    · exact results_cell_row rfl _ _ (w.heap.size + 1) 27 _ (0, 0) _ rfl (heap_mid w _ _ _) Tryz.underlying27 rfl (by kernel_rfl)
    · rfl
    refine ⟨?_, below3 _ _ _ _⟩
    go_light
    rw [← hrH.out]
    simp only [beq_iff_eq, beq_eq_false_iff_ne, ne_eq] at *
    first
      | (exfalso; omega)
      | (unfold onlyV
         repeat (first | rw [if_neg (by omega)] | rw [if_pos (by omega)])
         done)
      | (unfold onlyV
         repeat (first | rw [if_neg (by omega)] | rw [if_pos (by omega)])
         rfl))
end Go.Proofs.YtcencddbdidjjaaGreatDoor

/- Lists of numbers held against each other; instructions held against each other. -/
namespace Go.Proofs.YtcencddbdidjjaaGreatDoor
set_option linter.unusedVariables false
open Go.ChangeShapes Go.WideShapes Go.ChangeAt Go.RowKit

theorem Tab.cells {w : World} {zs : List Int} {a : Option Addr} {c : Nat} (h : Tab w (.slice a zs.length c) zs) (k : Nat) (hk : k < zs.length) : ∃ g, a = some ⟨g, 0, none⟩ ∧ w.cell? ⟨g, k, none⟩ = some (.int .i64 zs[k]) := by
  rcases h with ⟨_, rfl⟩ | ⟨g, c', hv, _, hcell⟩
  · simp at hk
  · injection hv with h1
    exact ⟨g, h1, hcell k hk⟩
theorem take_step {xs ys : List Int} {k : Nat} (h : xs.take k = ys.take k) (h1 : k < xs.length) (h2 : k < ys.length) (he : xs[k] = ys[k]) : xs.take (k + 1) = ys.take (k + 1) := by
  rw [List.take_succ_eq_append_getElem h1, List.take_succ_eq_append_getElem h2, h, he]
theorem beq_at {xs ys : List Int} {k : Nat} (h1 : k < xs.length) (h2 : k < ys.length) (he : xs[k] ≠ ys[k]) : (xs == ys) = false := by
  rw [beq_eq_false_iff_ne]; intro h; subst h; exact he rfl
theorem beq_len {xs ys : List Int} (h : xs.length ≠ ys.length) : (xs == ys) = false := by
  rw [beq_eq_false_iff_ne]; intro e; exact h (by rw [e])
theorem beq_all {xs ys : List Int} {k : Nat} (h : xs.take k = ys.take k) (h1 : xs.length ≤ k) (h2 : ys.length ≤ k) : (xs == ys) = true := by
  rw [List.take_of_length_le h1, List.take_of_length_le h2] at h; simp [h]

set_option maxRecDepth 1000000 in
set_option maxHeartbeats 1000000 in
theorem sameInts_calls (u v : Value) (xs ys : List Int) (w : World) (hu : Tab w u xs) (hv : Tab w v ys) (hx : xs.length ≤ 1048576) (hy : ys.length ≤ 1048576) :
    Calls Tryz.prog 44 #[u, v] w fun e w' => e = .returned (.bool (xs == ys)) ∧ ∃ n, w' = w.drewN n := by
  obtain ⟨a, c, rfl⟩ := hu.form
  obtain ⟨a2, c2, rfl⟩ := hv.form
  by_cases hl : xs.length = ys.length
  · have cu : Hid (∀ k (h : k < xs.length), ∃ g, a = some ⟨g, 0, none⟩ ∧ w.cell? ⟨g, k, none⟩ = some (.int .i64 xs[k])) := hu.cells
    have cv : Hid (∀ k (h : k < ys.length), ∃ g, a2 = some ⟨g, 0, none⟩ ∧ w.cell? ⟨g, k, none⟩ = some (.int .i64 ys[k])) := hv.cells
    clear hu hv
    have hlH : Hid (xs.length = ys.length) := hl
    rw [← hl]
    clear hl
    obtain ⟨r, hr⟩ : ∃ r, (xs == ys) = r := ⟨_, rfl⟩
    rw [hr]
    have hrH : Hid ((xs == ys) = r) := hr
    clear hr
    go_enter Tryz.func44, Tryz.ntmps44
    go_wp2
    go_loopw [5] (fun i wr => ∃ k n : Nat, k ≤ xs.length ∧ i = .int .i64 k ∧ wr = w.drewN n ∧ Hid (xs.take k = ys.take k)) (fun i _ => xs.length - (intOf i).toNat)
    case atStart => exact ⟨0, 0, Nat.zero_le _, rfl, rfl, rfl⟩
    case round =>
      obtain ⟨k, n, hk, rfl, rfl, htk⟩ := hrel
      by_cases hlt : k < xs.length
      · have hlt2 : k < ys.length := by have := hlH.out; omega
        obtain ⟨g, rfl, hcell⟩ := cu.out k hlt
        obtain ⟨g2, rfl, hcell2⟩ := cv.out k hlt2
        have hlt' : (k : Int) < (xs.length : Int) := by omega
        obtain ⟨x, hx1⟩ : ∃ x, x = xs[k] := ⟨_, rfl⟩
        obtain ⟨y, hy1⟩ : ∃ y, y = ys[k] := ⟨_, rfl⟩
        rw [← hx1] at hcell
        rw [← hy1] at hcell2
        by_cases hxy : x = y
        · subst hxy
          have hst : Hid (xs.take (k + 1) = ys.take (k + 1)) := take_step htk.out hlt hlt2 (by rw [← hx1, ← hy1])
          clear hx1 hy1
          go_wp2
          go_quiet (fail)
          go_wp2
          go_roundw
          case rel => exact ⟨k + 1, _, by omega, by go_num, rfl, hst⟩
          case measure => simp [intOf]; omega
        · have hst : Hid ((xs == ys) = false) := beq_at hlt hlt2 (by rw [← hx1, ← hy1]; exact hxy)
          have hxy' : (x != y) = true := by simpa using hxy
          clear hx1 hy1 hxy
          go_wp2
          go_quiet (fail)
          go_wp2
          go_ret
          exact ⟨by rw [← hrH.out, hst.out]; rfl, _, by first | rfl | exact World.drewN_drewN _ _ _⟩
      · have hst : Hid ((xs == ys) = true) := beq_all htk.out (by omega) (by have := hlH.out; omega)
        go_wp2
        go_ret
        exact ⟨by rw [← hrH.out, hst.out]; rfl, _, rfl⟩
  · have hr := beq_len hl
    rw [hr]
    have hne : ((xs.length : Int) != (ys.length : Int)) = true := by rw [bne_iff_ne]; omega
    clear hu hv hl hr
    go_enter Tryz.func44, Tryz.ntmps44
    go_wp2
    go_ret
    exact ⟨rfl, 0, rfl⟩

set_option maxRecDepth 1000000 in
set_option maxHeartbeats 1000000 in
theorem eqInts_calls (u v : Value) (xs ys : List Int) (w : World) (hu : Tab w u xs) (hv : Tab w v ys) (hx : xs.length ≤ 1048576) (hy : ys.length ≤ 1048576) :
    Calls Tryz.prog 17 #[u, v] w fun e w' => e = .returned (.bool (xs == ys)) ∧ ∃ n, w' = w.drewN n := by
  obtain ⟨a, c, rfl⟩ := hu.form
  obtain ⟨a2, c2, rfl⟩ := hv.form
  by_cases hl : xs.length = ys.length
  · have cu : Hid (∀ k (h : k < xs.length), ∃ g, a = some ⟨g, 0, none⟩ ∧ w.cell? ⟨g, k, none⟩ = some (.int .i64 xs[k])) := hu.cells
    have cv : Hid (∀ k (h : k < ys.length), ∃ g, a2 = some ⟨g, 0, none⟩ ∧ w.cell? ⟨g, k, none⟩ = some (.int .i64 ys[k])) := hv.cells
    clear hu hv
    have hlH : Hid (xs.length = ys.length) := hl
    rw [← hl]
    clear hl
    obtain ⟨r, hr⟩ : ∃ r, (xs == ys) = r := ⟨_, rfl⟩
    rw [hr]
    have hrH : Hid ((xs == ys) = r) := hr
    clear hr
    go_enter Tryz.func17, Tryz.ntmps17
    go_wp2
    go_loopw [5] (fun i wr => ∃ k n : Nat, k ≤ xs.length ∧ i = .int .i64 k ∧ wr = w.drewN n ∧ Hid (xs.take k = ys.take k)) (fun i _ => xs.length - (intOf i).toNat)
    case atStart => exact ⟨0, 0, Nat.zero_le _, rfl, rfl, rfl⟩
    case round =>
      obtain ⟨k, n, hk, rfl, rfl, htk⟩ := hrel
      by_cases hlt : k < xs.length
      · have hlt2 : k < ys.length := by have := hlH.out; omega
        obtain ⟨g, rfl, hcell⟩ := cu.out k hlt
        obtain ⟨g2, rfl, hcell2⟩ := cv.out k hlt2
        have hlt' : (k : Int) < (xs.length : Int) := by omega
        obtain ⟨x, hx1⟩ : ∃ x, x = xs[k] := ⟨_, rfl⟩
        obtain ⟨y, hy1⟩ : ∃ y, y = ys[k] := ⟨_, rfl⟩
        rw [← hx1] at hcell
        rw [← hy1] at hcell2
        by_cases hxy : x = y
        · subst hxy
          have hst : Hid (xs.take (k + 1) = ys.take (k + 1)) := take_step htk.out hlt hlt2 (by rw [← hx1, ← hy1])
          clear hx1 hy1
          go_wp2
          go_quiet (fail)
          go_wp2
          go_roundw
          case rel => exact ⟨k + 1, _, by omega, by go_num, rfl, hst⟩
          case measure => simp [intOf]; omega
        · have hst : Hid ((xs == ys) = false) := beq_at hlt hlt2 (by rw [← hx1, ← hy1]; exact hxy)
          have hxy' : (x != y) = true := by simpa using hxy
          clear hx1 hy1 hxy
          go_wp2
          go_quiet (fail)
          go_wp2
          go_ret
          exact ⟨by rw [← hrH.out, hst.out]; rfl, _, by first | rfl | exact World.drewN_drewN _ _ _⟩
      · have hst : Hid ((xs == ys) = true) := beq_all htk.out (by omega) (by have := hlH.out; omega)
        go_wp2
        go_ret
        exact ⟨by rw [← hrH.out, hst.out]; rfl, _, rfl⟩
  · have hr := beq_len hl
    rw [hr]
    have hne : ((xs.length : Int) != (ys.length : Int)) = true := by rw [bne_iff_ne]; omega
    clear hu hv hl hr
    go_enter Tryz.func17, Tryz.ntmps17
    go_wp2
    go_ret
    exact ⟨rfl, 0, rfl⟩


def sameB (o k a b o' k' a' b' : Int) (T C N Y T' C' N' Y' : ByteArray) (zs ys : List Int) : Bool :=
  o == o' && k == k' && a == a' && b == b' && T.toList == T'.toList && C.toList == C'.toList && N.toList == N'.toList && Y.toList == Y'.toList && zs == ys
set_option maxRecDepth 1000000 in
set_option maxHeartbeats 4000000 in
theorem sameIns_calls (o k a b o' k' a' b' : Int) (T C N Y T' C' N' Y' : ByteArray) (u v : Value) (zs ys : List Int) (w : World) (hu : Tab w u zs) (hv : Tab w v ys) (hx : zs.length ≤ 1048576) (hy : ys.length ≤ 1048576) :
    Calls Tryz.prog 18 #[insV o k a b T C N Y u, insV o' k' a' b' T' C' N' Y' v] w fun e w' => e = .returned (.bool (sameB o k a b o' k' a' b' T C N Y T' C' N' Y' zs ys)) ∧ Below w.heap.size w w' := by
  have intsH : Hid (∀ W, Below w.heap.size w W → Calls Tryz.prog 44 #[u, v] W fun e w' => e = .returned (.bool (zs == ys)) ∧ ∃ n, w' = W.drewN n) := fun W hW => sameInts_calls u v zs ys W (hu.kept hW) (hv.kept hW) hx hy
  obtain ⟨ta, c, rfl⟩ := hu.form
  obtain ⟨ta', c', rfl⟩ := hv.form
  clear hu hv hx hy
  obtain ⟨r, hr⟩ : ∃ r, sameB o k a b o' k' a' b' T C N Y T' C' N' Y' zs ys = r := ⟨_, rfl⟩
  rw [hr]
  have hrH : Hid (sameB o k a b o' k' a' b' T C N Y T' C' N' Y' zs ys = r) := hr
  clear hr
  go_enter Tryz.func18, Tryz.ntmps18
  go_wp2_with (go_at_call 44; refine (intsH.out _ (below2 _ _ _)).mono ?_; rintro e w1 ⟨rfl, nq, rfl⟩)
  all_goals (
    go_ret
    refine ⟨?_, by first | exact below2 _ _ _ | exact below2n _ _ _ _⟩
    go_light
    rw [← hrH.out]
    clear hrH intsH
    first | rfl | (simp_all [sameB]; done))
end Go.Proofs.YtcencddbdidjjaaGreatDoor
