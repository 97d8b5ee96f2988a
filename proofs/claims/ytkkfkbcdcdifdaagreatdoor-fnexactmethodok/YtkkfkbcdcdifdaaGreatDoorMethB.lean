/- Handlers, lines and frames of a method, by the program. -/
import Derived.Test.YtkkfkbcdcdifdaaGreatDoorMethA
import Derived.Test.YtkkfkbcdcdifdaaGreatDoorInsE
namespace Go.Proofs.YtkkfkbcdcdifdaaGreatDoor
set_option linter.unusedVariables false
open Go.ChangeShapes Go.WideShapes Go.ChangeAt Go.RowKit

def handB (x : HandL) (size : Int) : Bool := decide (0 ≤ x.fr) && decide (x.fr < x.to) && decide (x.to ≤ size) && wthn x.at' size && ((x.ty.toList == []) || nameOk x.ty.data.toList)

set_option maxRecDepth 1000000 in
set_option maxHeartbeats 1000000 in
theorem handlerOk_calls (x : HandL) (size : Int) (w : World) (hy : x.ty.size ≤ 1048576) :
    Calls Tryz.prog 78 #[.agg #[.int .i64 x.fr, .int .i64 x.to, .int .i64 x.at', .string x.ty], .int .i64 size] w fun e w' => e = .returned (.bool (handB x size)) ∧ Below w.heap.size w w' := by
  have nameH : Hid (∀ W, Calls Tryz.prog 31 #[.string x.ty] W fun e w' => e = .returned (.bool (nameOk x.ty.data.toList)) ∧ Below W.heap.size W w') := fun W => implName_below x.ty W (by omega)
  have wiH : Hid (∀ W, Calls Tryz.prog 124 #[.int .i64 x.at', .int .i64 size] W fun e w' => e = .returned (.bool (wthn x.at' size)) ∧ w' = W) := fun W => within_calls _ _ W
  unfold handB
  generalize nameOk x.ty.data.toList = nm at *
  generalize wthn x.at' size = wt at *
  obtain ⟨R, hR⟩ : ∃ R, (decide (0 ≤ x.fr) && decide (x.fr < x.to) && decide (x.to ≤ size) && wt && ((x.ty.toList == []) || nm)) = R := ⟨_, rfl⟩
  rw [hR]
  have hRH : Hid (_ = R) := hR
  clear hR hy
  by_cases h1 : 0 ≤ x.fr
  · by_cases h2 : x.fr < x.to
    · by_cases h3 : x.to ≤ size
      · cases wt with
        | false =>
          go_enter Tryz.func78, Tryz.ntmps78
          go_wp2_with (go_at_call 124; refine (wiH.out _).mono ?_; rintro e w2 ⟨rfl, rfl⟩)
          go_ret
          exact ⟨by rw [← hRH.out]; simp, below_1 _ _⟩
        | true =>
          cases h4 : (x.ty.toList == [])
          · go_enter Tryz.func78, Tryz.ntmps78
            go_wp2_with (first | (go_at_call 124; refine (wiH.out _).mono ?_; rintro e w2 ⟨rfl, rfl⟩) | (go_at_call 31; refine (nameH.out _).mono ?_; rintro e w3 ⟨rfl, hb3⟩))
            go_ret
            exact ⟨by rw [← hRH.out]; simp [h1, h2, h3, h4], below_on2 (below_1 _ _) hb3⟩
          · go_enter Tryz.func78, Tryz.ntmps78
            go_wp2_with (first | (go_at_call 124; refine (wiH.out _).mono ?_; rintro e w2 ⟨rfl, rfl⟩))
            go_ret
            exact ⟨by rw [← hRH.out]; simp [h1, h2, h3, h4], below_1 _ _⟩
      · go_enter Tryz.func78, Tryz.ntmps78
        go_wp2
        go_ret
        exact ⟨by rw [← hRH.out, decide_eq_false (show ¬ x.to ≤ size by omega)]; simp, below_1 _ _⟩
    · go_enter Tryz.func78, Tryz.ntmps78
      go_wp2
      go_ret
      exact ⟨by rw [← hRH.out, decide_eq_false (show ¬ x.fr < x.to by omega)]; simp, below_1 _ _⟩
  · go_enter Tryz.func78, Tryz.ntmps78
    go_wp2
    go_ret
    exact ⟨by rw [← hRH.out, decide_eq_false (show ¬ 0 ≤ x.fr by omega)]; simp, below_1 _ _⟩

def linesB (size : Int) : Int → List LineL → Bool
  | _, [] => true
  | last, x :: r => !(decide (x.at' ≤ last) || decide (size ≤ x.at') || !betw x.n 1 1000000) && linesB size x.at' r

set_option maxRecDepth 1000000 in
set_option maxHeartbeats 1000000 in
theorem linesOk_calls (N S : ByteArray) (f k l : Int) (a1 : Option Addr) (n1 c1 : Nat) (a2 : Option Addr) (n2 c2 : Nat) (a3 : Option Addr) (n3 c3 : Nat) (a4 : Option Addr) (n4 c4 : Nat) (w : World) (xs : List LineL) (lo hi : Nat) (hh : hi ≤ w.heap.size) (ht : ListAt LineR 2 true lo hi w (.slice a4 n4 c4) xs) (hn : xs.length = n4) (hx : n4 ≤ 1048576) (hn1 : n1 ≤ 1048576) :
    Calls Tryz.prog 80 #[methV N S f k l a1 n1 c1 a2 n2 c2 a3 n3 c3 a4 n4 c4] w fun e w' => e = .returned (.bool (linesB n1 (-1) xs)) ∧ Below w.heap.size w w' := by
  have htH : Hid (∀ W, Below w.heap.size w W → ListAt LineR 2 true lo hi W (.slice a4 n4 c4) xs) := fun W hW => ht.kept LineR.stable (Nat.le_refl _) (Nat.le_refl _) ((Same.below hW).mono (Nat.zero_le _) hh)
  have hldH : Hid ((Tryz.prog.info? 99).map (·.size) = some 2) := by show (Tryz.prog.info? 99).map (·.size) = some 2; kernel_rfl
  have hnH : Hid (xs.length = n4) := hn
  have btH : Hid (∀ n W, Calls Tryz.prog 34 #[.int .i64 n, .int .i64 1, .int .i64 1000000] W fun e w' => e = .returned (.bool (betw n 1 1000000)) ∧ w' = W) := fun n W => between_calls _ _ _ W
  obtain ⟨R, hR⟩ : ∃ R, linesB n1 (-1) xs = R := ⟨_, rfl⟩
  rw [hR]
  have hRH : Hid (linesB n1 (-1) xs = R) := hR
  clear hR ht hn hh
  go_enter Tryz.func80, Tryz.ntmps80
  go_wp2
  go_loopw [3, 9] (fun q i wr => ∃ (m : Nat) (z : Int), m ≤ n4 ∧ q = .int .i64 z ∧ i = .int .i64 m ∧ Hid (linesB n1 z (xs.drop m) = R) ∧ Hid (Rec1 w wr [.string N, .string S, .int .i64 f, .int .i64 k, .int .i64 l, .slice a1 n1 c1, .slice a2 n2 c2, .slice a3 n3 c3, .slice a4 n4 c4])) (fun _ i _ => n4 - (intOf i).toNat)
  case atStart => exact ⟨0, -1, Nat.zero_le _, rfl, rfl, hRH.out, Rec1.start rfl⟩
  case round =>
    obtain ⟨m, z, hm, rfl, rfl, hz, hB⟩ := hrel
    by_cases hlt : m < n4
    · have hltx : m < xs.length := by rw [hnH.out]; exact hlt
      obtain ⟨b, off, row, rfl, hbb, hrl, hrr, hrx⟩ := (htH.out wr hB.out.hb).at m hltx
      have hlt' : (m : Int) < (n4 : Int) := by omega
      have hdr : Hid (xs.drop m = xs[m] :: xs.drop (m + 1)) := (List.drop_eq_getElem_cons hltx)
      obtain ⟨x, hxm⟩ : ∃ x, x = xs[m] := ⟨_, rfl⟩
      rw [← hxm] at hrx hdr
      obtain rfl : row = [.int .i64 x.at', .int .i64 x.n] := hrx
      have hrrH : Hid (wr.rangeAt b (off + m * 2) [.int .i64 x.at', .int .i64 x.n]) := hrr
      have y5 := hB.out.cell 5 _ rfl
      have hstep : Hid (R = (!(decide (x.at' ≤ z) || decide (n1 ≤ x.at') || !betw x.n 1 1000000) && linesB n1 x.at' (xs.drop (m + 1)))) := by
        have := hz.out
        rw [hdr.out] at this
        exact this.symm
      have hBn : Hid (Rec1 w (wr.alloc (.cells #[.int .i64 x.at', .int .i64 x.n] 99)) _) := hB.out.call (below_1 _ _)
      have y5' : (wr.alloc (.cells #[.int .i64 x.at', .int .i64 x.n] 99)).cell? ⟨w.heap.size, 5, none⟩ = some (.slice a1 n1 c1) := hBn.out.cell 5 _ rfl
      clear hrr hrl hxm y5
      obtain ⟨bt, hbt⟩ : ∃ bt, betw x.n 1 1000000 = bt := ⟨_, rfl⟩
      have hbtH : Hid (∀ W, Calls Tryz.prog 34 #[.int .i64 x.n, .int .i64 1, .int .i64 1000000] W fun e w' => e = .returned (.bool bt) ∧ w' = W) := fun W => by rw [← hbt]; exact btH.out x.n W
      rw [hbt] at hstep
      clear hbt
      by_cases h1 : x.at' ≤ z
      · go_wp2_with (first | (refine wpList_load_mid rfl 99 _ rfl b (off + m * 2) (by first | rfl | (simp; done)) _ _ hrrH.out Tryz.underlying99 rfl hldH.out ?_) | (go_at_call 34; refine (hbtH.out _).mono ?_; rintro e w2 ⟨rfl, rfl⟩))
        go_ret
        exact ⟨by rw [hstep.out]; simp [h1], hBn.out.hb⟩
      · by_cases h2 : (n1 : Int) ≤ x.at'
        · go_wp2_with (first | (refine wpList_load_mid rfl 99 _ rfl b (off + m * 2) (by first | rfl | (simp; done)) _ _ hrrH.out Tryz.underlying99 rfl hldH.out ?_) | (go_at_call 34; refine (hbtH.out _).mono ?_; rintro e w2 ⟨rfl, rfl⟩))
          go_ret
          exact ⟨by rw [hstep.out]; simp [h2], hBn.out.hb⟩
        · cases bt with
          | false =>
            go_wp2_with (first | (refine wpList_load_mid rfl 99 _ rfl b (off + m * 2) (by first | rfl | (simp; done)) _ _ hrrH.out Tryz.underlying99 rfl hldH.out ?_) | (go_at_call 34; refine (hbtH.out _).mono ?_; rintro e w2 ⟨rfl, rfl⟩))
            go_ret
            exact ⟨by rw [hstep.out]; simp, hBn.out.hb⟩
          | true =>
            go_wp2_with (first | (refine wpList_load_mid rfl 99 _ rfl b (off + m * 2) (by first | rfl | (simp; done)) _ _ hrrH.out Tryz.underlying99 rfl hldH.out ?_) | (go_at_call 34; refine (hbtH.out _).mono ?_; rintro e w2 ⟨rfl, rfl⟩))
            go_roundw
            case rel => exact ⟨m + 1, _, by omega, rfl, by go_num, (show _ = R by rw [hstep.out]; simp [h1, h2]), hBn⟩
            case measure => simp [intOf]; omega
    · have hend := hz.out
      rw [List.drop_eq_nil_of_le (by have := hnH.out; omega)] at hend
      have hR : R = true := hend.symm
      subst hR
      clear hend
      go_wp2
      go_ret
      exact ⟨rfl, hB.out.hb⟩
end Go.Proofs.YtkkfkbcdcdifdaaGreatDoor
