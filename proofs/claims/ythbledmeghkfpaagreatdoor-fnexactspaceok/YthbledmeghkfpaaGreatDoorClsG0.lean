/- Lists whose elements are so and told apart; lists that ascend. -/
import Derived.Test.YthbledmeghkfpaaGreatDoorClsA
namespace Go.Proofs.YthbledmeghkfpaaGreatDoor
set_option linter.unusedVariables false
open Go.Maps Go.WideMaps
open Go.ChangeShapes Go.WideShapes Go.ChangeAt Go.RowKit

/-- Each element is so, and told otherwise than those ahead of it. -/
def fresh {α : Type} (ok : α → Bool) (key : α → List UInt8) : List α → List α → Bool
  | _, [] => true
  | acc, x :: r => ok x && (!(acc.any fun y => decide (key y = key x)) && fresh ok key (acc ++ [x]) r)
theorem fresh_eq {α : Type} (ok : α → Bool) (key : α → List UInt8) : ∀ (xs acc : List α), fresh ok key acc xs = (xs.all ok && decide ((xs.map key).Nodup ∧ ∀ x ∈ xs, ∀ y ∈ acc, key y ≠ key x))
  | [], acc => by simp [fresh]
  | x :: r, acc => by
    rw [fresh, fresh_eq ok key r (acc ++ [x])]
    cases hx : ok x
    · simp [hx]
    · simp only [List.all_cons, hx, Bool.true_and]
      cases hr : r.all ok
      · simp
      · simp only [Bool.true_and]
        by_cases ha : ∃ y ∈ acc, key y = key x
        · obtain ⟨y, hy, e⟩ := ha
          have h1 : (acc.any fun y => decide (key y = key x)) = true := List.any_eq_true.2 ⟨y, hy, by simpa using e⟩
          rw [h1]
          symm
          simp only [Bool.not_true, Bool.false_and, decide_eq_false_iff_not, not_and]
          intro _ h2
          exact h2 x (by simp) y hy e
        · have h1 : (acc.any fun y => decide (key y = key x)) = false := by
            rw [List.any_eq_false]
            intro y hy e
            exact ha ⟨y, hy, by simpa using e⟩
          rw [h1]
          simp only [Bool.not_false, Bool.true_and]
          apply decide_eq_decide.2
          simp only [List.map_cons, List.nodup_cons, List.mem_map, not_exists, not_and, List.mem_append, List.mem_cons, forall_eq_or_imp]
          constructor
          · rintro ⟨h2, h3⟩
            refine ⟨⟨fun y hy e => h3 y hy x (.inr (.inl rfl)) e.symm, h2⟩, fun y hy e => ha ⟨y, hy, e⟩, fun z hz y hy => h3 z hz y (.inl hy)⟩
          · rintro ⟨⟨h2, h3⟩, h4, h5⟩
            refine ⟨h3, fun z hz y hy => ?_⟩
            rcases hy with hy | rfl | hy
            · exact h5 z hz y hy
            · exact fun e => h2 z hz e.symm
            · cases hy
theorem fresh_nil {α : Type} (ok : α → Bool) (key : α → List UInt8) (xs : List α) : fresh ok key [] xs = (xs.all ok && decide ((xs.map key).Nodup)) := by
  rw [fresh_eq]; congr 1; apply decide_eq_decide.2; simp

theorem less_irrefl : ∀ l : List UInt8, Op.bytesLess l l = false
  | [] => rfl
  | a :: r => by simp [Op.bytesLess, less_irrefl r]
theorem less_trans : ∀ {a b c : List UInt8}, Op.bytesLess a b = true → Op.bytesLess b c = true → Op.bytesLess a c = true
  | a, b, [], _, h2 => by cases b <;> cases h2
  | [], b, c :: lc, _, _ => rfl
  | a :: la, [], c :: lc, h1, _ => by cases h1
  | a :: la, b :: lb, c :: lc, h1, h2 => by
    simp only [Op.bytesLess, Bool.or_eq_true, Bool.and_eq_true, decide_eq_true_eq, beq_iff_eq] at h1 h2 ⊢
    rcases h1 with h1 | ⟨rfl, h1⟩
    · rcases h2 with h2 | ⟨rfl, h2⟩
      · exact .inl (UInt8.lt_trans h1 h2)
      · exact .inl h1
    · rcases h2 with h2 | ⟨rfl, h2⟩
      · exact .inl h2
      · exact .inr ⟨rfl, less_trans h1 h2⟩
/-- Ascending, behind the one ahead (if there is one). -/
def ascFrom : Option ByteArray → List ByteArray → Bool
  | _, [] => true
  | p, s :: r => (match p with | none => true | some q => Op.bytesLess q.toList s.toList) && ascFrom (some s) r
theorem asc_above : ∀ (xs : List ByteArray) (q : ByteArray), ascFrom (some q) xs = true → ∀ s ∈ xs, Op.bytesLess q.toList s.toList = true
  | [], _, _, _, hs => by cases hs
  | x :: r, q, h, s, hs => by
    simp only [ascFrom, Bool.and_eq_true] at h
    rcases List.mem_cons.1 hs with rfl | hs
    · exact h.1
    · exact less_trans h.1 (asc_above r x h.2 s hs)
theorem asc_nodup : ∀ (xs : List ByteArray) (p : Option ByteArray), ascFrom p xs = true → (xs.map strLit).Nodup
  | [], _, _ => List.nodup_nil
  | x :: r, p, h => by
    simp only [ascFrom, Bool.and_eq_true] at h
    rw [List.map_cons, List.nodup_cons]
    refine ⟨fun hm => ?_, asc_nodup r _ h.2⟩
    obtain ⟨s, hs, e⟩ := List.mem_map.1 hm
    have hl := asc_above r x h.2 s hs
    have : s = x := by
      unfold strLit at e
      exact ByteArray.ext (Array.toList_inj.1 e)
    rw [this, less_irrefl] at hl
    cases hl

def nameS (s : ByteArray) : Bool := nameOk s.data.toList
def fieldKey (x : FieldL) : List UInt8 := strLit x.name
def methKey (x : MethL) : List UInt8 := pairLit x.name x.sig
def namesB (xs : List ByteArray) : Bool := !decide ((40 : Int) < xs.length) && fresh nameS strLit [] xs
end Go.Proofs.YthbledmeghkfpaaGreatDoor

/- Lists of names: by the program and by the specification. -/
namespace Go.Proofs.YthbledmeghkfpaaGreatDoor
set_option linter.unusedVariables false
open Go.ChangeShapes Go.WideShapes Go.ChangeAt Go.RowKit

set_option maxRecDepth 1000000 in
set_option maxHeartbeats 1000000 in
theorem allName_calls (v : Value) (xs : List ByteArray) (w : World) (lo hi : Nat) (hh : hi ≤ w.heap.size) (ht : ListAt StrR 1 true lo hi w v xs) (hn : xs.length ≤ 1048576) (hs : ∀ s ∈ xs, s.size ≤ 1048576) :
    Calls Tryz.prog 60 #[v, .func (.func 33) #[] #[]] w fun e w' => e = .returned (.bool (xs.all nameS)) ∧ Below w.heap.size w w' := by
  obtain ⟨a, c, rfl⟩ := ht.form
  have htH : Hid (∀ W, Below w.heap.size w W → ListAt StrR 1 true lo hi W (.slice a xs.length c) xs) := fun W hW => ht.kept StrR.stable (Nat.le_refl _) (Nat.le_refl _) ((Same.below hW).mono (Nat.zero_le _) hh)
  have shH : Hid (∀ s ∈ xs, ∀ W, Below w.heap.size w W → Calls Tryz.prog 33 #[.string s] W fun e w' => e = .returned (.bool (nameS s)) ∧ Below W.heap.size W w') := fun s hx W hW => implName_below s W (by have := hs s hx; omega)
  obtain ⟨R, hR⟩ : ∃ R, xs.all nameS = R := ⟨_, rfl⟩
  rw [hR]
  have hRH : Hid (xs.all nameS = R) := hR
  clear hR ht hh hs
  go_enter Tryz.func60, Tryz.ntmps60
  go_wp2
  go_loopw [9] (fun i wr => ∃ m : Nat, m ≤ xs.length ∧ i = .int .i64 m ∧ Hid ((xs.drop m).all nameS = R) ∧ Hid (Below w.heap.size w wr)) (fun i _ => xs.length - (intOf i).toNat)
  case atStart => exact ⟨0, Nat.zero_le _, rfl, hRH.out, Below.refl _ _⟩
  case round =>
    obtain ⟨m, hm, rfl, hz, hB⟩ := hrel
    by_cases hlt : m < xs.length
    · obtain ⟨b, off, row, rfl, hbb, hrl, hrr, hrx⟩ := (htH.out wr hB.out).at m hlt
      have hrow : row = [.string xs[m]] := hrx
      have hcell : wr.cell? ⟨b, off + m, none⟩ = some (.string xs[m]) := by simpa using hrr 0 (.string xs[m]) (by rw [hrow]; rfl)
      have hlt' : (m : Int) < (xs.length : Int) := by omega
      have hstep : Hid (R = (nameS xs[m] && (xs.drop (m + 1)).all nameS)) := by
        have := hz.out
        rw [List.drop_eq_getElem_cons hlt] at this
        exact this.symm
      have hc : Hid (Calls Tryz.prog 33 #[.string xs[m]] wr fun e w' => e = .returned (.bool (nameS xs[m])) ∧ Below wr.heap.size wr w') := shH.out xs[m] (List.getElem_mem hlt) wr hB.out
      obtain ⟨s, hs⟩ : ∃ s, s = xs[m] := ⟨_, rfl⟩
      rw [← hs] at hcell hstep hc
      clear hrr hrl hrx hrow hs
      obtain ⟨sb, hsb⟩ : ∃ sb, nameS s = sb := ⟨_, rfl⟩
      rw [hsb] at hstep hc
      clear hsb
      cases sb with
      | false =>
        go_wp2_with (go_at_call 33; refine hc.out.mono ?_; rintro e w2 ⟨rfl, hb2⟩)
        go_ret
        exact ⟨by rw [hstep.out]; rfl, below_on2 hB.out hb2⟩
      | true =>
        go_wp2_with (go_at_call 33; refine hc.out.mono ?_; rintro e w2 ⟨rfl, hb2⟩)
        go_roundw
        case rel => exact ⟨m + 1, by omega, by go_num, (show _ = R by rw [hstep.out]; rfl), below_on2 hB.out hb2⟩
        case measure => simp [intOf]; omega
    · have hend := hz.out
      rw [List.drop_eq_nil_of_le (by omega)] at hend
      have hR : R = true := hend.symm
      subst hR
      clear hend
      go_wp2
      go_ret
      exact ⟨rfl, hB.out⟩


/-- What stands just ahead of place m. -/
def ahead (xs : List ByteArray) (m : Nat) : Option ByteArray := (xs.take m).getLast?
theorem ahead_zero (xs : List ByteArray) : ahead xs 0 = none := rfl
theorem ahead_succ (xs : List ByteArray) (m : Nat) (h : m < xs.length) : ahead xs (m + 1) = some xs[m] := by
  unfold ahead
  rw [← List.take_append_getElem h, List.getLast?_concat]
theorem asc_step (xs : List ByteArray) (m : Nat) (h : m < xs.length) : ascFrom (ahead xs m) (xs.drop m) = ((match ahead xs m with | none => true | some q => Op.bytesLess q.toList xs[m].toList) && ascFrom (ahead xs (m + 1)) (xs.drop (m + 1))) := by
  rw [List.drop_eq_getElem_cons h, ahead_succ xs m h]
  cases ahead xs m <;> rfl

set_option maxRecDepth 1000000 in
set_option maxHeartbeats 1000000 in
theorem ascending_calls (v : Value) (xs : List ByteArray) (w : World) (lo hi : Nat) (ht : ListAt StrR 1 true lo hi w v xs) (hn : xs.length ≤ 1048576) :
    Calls Tryz.prog 63 #[v] w fun e w' => e = .returned (.bool (ascFrom none xs)) ∧ w' = w := by
  obtain ⟨a, c, rfl⟩ := ht.form
  have htH : Hid (ListAt StrR 1 true lo hi w (.slice a xs.length c) xs) := ht
  obtain ⟨R, hR⟩ : ∃ R, ascFrom none xs = R := ⟨_, rfl⟩
  rw [hR]
  have hRH : Hid (ascFrom none xs = R) := hR
  clear hR ht
  go_enter Tryz.func63, Tryz.ntmps63
  go_wp2
  go_loopw [7] (fun i wr => ∃ m : Nat, m ≤ xs.length ∧ i = .int .i64 m ∧ Hid (ascFrom (ahead xs m) (xs.drop m) = R) ∧ wr = w) (fun i _ => xs.length - (intOf i).toNat)
  case atStart => exact ⟨0, Nat.zero_le _, rfl, hRH.out, rfl⟩
  case round =>
    obtain ⟨m, hm, rfl, hz, rfl⟩ := hrel
    by_cases hlt : m < xs.length
    · obtain ⟨b, off, rfl, hcell⟩ := htH.out.strAt m hlt
      have hlt' : (m : Int) < (xs.length : Int) := by omega
      have hstep : Hid (R = ((match ahead xs m with | none => true | some q => Op.bytesLess q.toList xs[m].toList) && ascFrom (ahead xs (m + 1)) (xs.drop (m + 1)))) := by
        rw [← asc_step xs m hlt]; exact hz.out.symm
      cases m with
      | zero =>
        obtain ⟨s, hs⟩ : ∃ s, s = xs[0] := ⟨_, rfl⟩
        rw [← hs] at hcell hstep
        have hst : Hid (R = ascFrom (ahead xs 1) (xs.drop 1)) := by
          have := hstep.out
          simpa [ahead_zero, Hid] using this
        have hcell0 : wr.cell? ⟨b, off, none⟩ = some (.string s) := hcell
        clear hstep hz hs hcell
        go_wp2
        go_roundw
        case rel => exact ⟨1, by omega, by go_num, hst.out.symm, trivial⟩
        case measure => simp [intOf]; omega
      | succ k =>
        obtain ⟨b2, off2, hb2, hcell2⟩ := htH.out.strAt k (by omega)
        obtain ⟨rfl, rfl⟩ : b = b2 ∧ off = off2 := by simpa using hb2
        have hah := ahead_succ xs k (by omega)
        obtain ⟨s, hs⟩ : ∃ s, s = xs[k + 1] := ⟨_, rfl⟩
        obtain ⟨q, hq⟩ : ∃ q, q = xs[k] := ⟨_, rfl⟩
        rw [← hs] at hcell hstep
        rw [← hq] at hcell2 hah
        have hst : Hid (R = (Op.bytesLess q.toList s.toList && ascFrom (ahead xs (k + 1 + 1)) (xs.drop (k + 1 + 1)))) := by
          have := hstep.out
          rw [hah] at this
          exact this
        have hk0 : (0 : Int) < ((k + 1 : Nat) : Int) := by omega
        clear hstep hz hs hq hah hb2
        cases hl : Op.bytesLess q.toList s.toList with
        | true =>
          rw [hl] at hst
          go_wp2
          go_roundw
          case rel => exact ⟨k + 1 + 1, by omega, by go_num, (show _ = R by rw [hst.out]; rfl), trivial⟩
          case measure => simp [intOf]; omega
        | false =>
          rw [hl] at hst
          go_wp2
          go_ret
          exact ⟨by rw [hst.out]; rfl, rfl⟩
    · have hend := hz.out
      rw [List.drop_eq_nil_of_le (by omega)] at hend
      have hR : R = true := hend.symm
      subst hR
      clear hend
      go_wp2
      go_ret
      exact ⟨rfl, rfl⟩

set_option maxRecDepth 1000000 in
set_option maxHeartbeats 1000000 in
theorem l2In_calls (a : Option Addr) (n c : Nat) (s : ByteArray) (xs : List ByteArray) (w : World) (hxn : xs.length = n) (hn : n ≤ 1048576) (hc : ∀ k (h : k < xs.length), ∃ b off, a = some ⟨b, off, none⟩ ∧ w.cell? ⟨b, off + k, none⟩ = some (.string xs[k])) :
    Calls Tryz.prog 47 #[.slice a n c, .string s] w fun e w' => e = .returned (.bool (xs.any fun y => y.toList == s.toList)) ∧ w' = w := by
  have hcH : Hid (∀ k (h : k < xs.length), ∃ b off, a = some ⟨b, off, none⟩ ∧ w.cell? ⟨b, off + k, none⟩ = some (.string xs[k])) := hc
  have hnH : Hid (xs.length = n) := hxn
  obtain ⟨R, hR⟩ : ∃ R, (xs.any fun y => y.toList == s.toList) = R := ⟨_, rfl⟩
  rw [hR]
  have hRH : Hid ((xs.any fun y => y.toList == s.toList) = R) := hR
  clear hR hc hxn
  go_enter Tryz.func47, Tryz.ntmps47
  go_wp2
  go_loopw [5] (fun i wr => ∃ m : Nat, m ≤ n ∧ i = .int .i64 m ∧ Hid (((xs.drop m).any fun y => y.toList == s.toList) = R) ∧ wr = w) (fun i _ => n - (intOf i).toNat)
  case atStart => exact ⟨0, Nat.zero_le _, rfl, hRH.out, rfl⟩
  case round =>
    obtain ⟨m, hm, rfl, hz, rfl⟩ := hrel
    by_cases hlt : m < n
    · obtain ⟨b, off, rfl, hcell⟩ := hcH.out m (by have := hnH.out; omega)
      have hlt' : (m : Int) < (n : Int) := by omega
      have hltx : m < xs.length := by have := hnH.out; omega
      have hstep : Hid (R = ((xs[m].toList == s.toList) || ((xs.drop (m + 1)).any fun y => y.toList == s.toList))) := by
        have := hz.out
        rw [List.drop_eq_getElem_cons hltx] at this
        exact this.symm
      obtain ⟨y, hy⟩ : ∃ y, y = xs[m] := ⟨_, rfl⟩
      rw [← hy] at hcell hstep
      clear hz hy
      cases he : (y.toList == s.toList) with
      | true =>
        rw [he] at hstep
        go_wp2
        go_ret
        exact ⟨by rw [hstep.out]; rfl, rfl⟩
      | false =>
        rw [he] at hstep
        go_wp2
        go_roundw
        case rel => exact ⟨m + 1, by omega, by go_num, (show _ = R by rw [hstep.out]; rfl), trivial⟩
        case measure => simp [intOf]; omega
    · have hend := hz.out
      rw [List.drop_eq_nil_of_le (by have := hnH.out; omega)] at hend
      have hR : R = false := hend.symm
      subst hR
      clear hend
      go_wp2
      go_ret
      exact ⟨rfl, rfl⟩
end Go.Proofs.YthbledmeghkfpaaGreatDoor

/- Names that are no two alike, by the specification. -/
namespace Go.Proofs.YthbledmeghkfpaaGreatDoor
set_option linter.unusedVariables false
open Go.ChangeShapes Go.WideShapes Go.ChangeAt Go.RowKit

theorem str_eq (y x : ByteArray) : (y.toList == x.toList) = decide (strLit y = strLit x) := by
  unfold strLit
  rw [ByteArray.toList_eq, ByteArray.toList_eq, Bool.eq_iff_iff, beq_iff_eq, decide_eq_true_iff]
theorem any_str (acc : List ByteArray) (x : ByteArray) : (acc.any fun y => y.toList == x.toList) = acc.any fun y => decide (strLit y = strLit x) := by
  congr 1
  funext y
  exact str_eq y x
theorem fresh_step {α : Type} (ok : α → Bool) (key : α → List UInt8) (xs : List α) (m : Nat) (h : m < xs.length) :
    fresh ok key (xs.take m) (xs.drop m) = (ok xs[m] && (!((xs.take m).any fun y => decide (key y = key xs[m])) && fresh ok key (xs.take (m + 1)) (xs.drop (m + 1)))) := by
  rw [List.drop_eq_getElem_cons h, ← List.take_append_getElem h]
  rfl
theorem drewN_all (w : World) (n k : Nat) : (w.drewN n).drewN k = w.drewN (n + k) := World.drewN_drewN w n k

set_option maxRecDepth 1000000 in
set_option maxHeartbeats 2000000 in
theorem l2Names_calls (v : Value) (xs : List ByteArray) (w : World) (lo hi : Nat) (ht : StrsAt true lo hi w v xs) (hn : xs.length ≤ 1048576) (hs : ∀ s ∈ xs, s.size ≤ 1048576) :
    Calls Tryz.prog 24 #[v] w fun e w' => e = .returned (.bool (namesB xs)) ∧ ∃ n, w' = w.drewN n := by
  obtain ⟨a, c, rfl⟩ := ht.form
  have hcap : xs.length ≤ c := ht.2 rfl a xs.length c rfl
  have cH : Hid (∀ k (h : k < xs.length), ∃ b off, a = some ⟨b, off, none⟩ ∧ w.cell? ⟨b, off + k, none⟩ = some (.string xs[k])) := fun k h => ht.1.strAt k h
  have hsH : Hid (∀ s ∈ xs, s.size ≤ 1048576) := hs
  obtain ⟨R, hR⟩ : ∃ R, namesB xs = R := ⟨_, rfl⟩
  rw [hR]
  unfold namesB at hR
  by_cases h40 : (40 : Int) < xs.length
  · rw [decide_eq_true h40] at hR
    have hR : R = false := hR.symm
    subst hR
    clear ht hs
    go_enter Tryz.func24, Tryz.ntmps24
    go_wp2
    go_ret
    exact ⟨rfl, 0, rfl⟩
  rw [decide_eq_false h40] at hR
  have hRH : Hid (fresh nameS strLit [] xs = R) := by simpa [Hid] using hR
  clear hR ht hs
  go_enter Tryz.func24, Tryz.ntmps24
  go_wp2
  go_loopw [3] (fun i wr => ∃ m k : Nat, m ≤ xs.length ∧ i = .int .i64 m ∧ Hid (fresh nameS strLit (xs.take m) (xs.drop m) = R) ∧ Hid (wr = w.drewN k)) (fun i _ => xs.length - (intOf i).toNat)
  case atStart => exact ⟨0, 0, Nat.zero_le _, rfl, hRH.out, rfl⟩
  case round =>
    obtain ⟨m, k, hm, rfl, hz, hw⟩ := hrel
    by_cases hlt : m < xs.length
    · obtain ⟨b, off, rfl, hcell⟩ := cH.out m hlt
      have hlt' : (m : Int) < (xs.length : Int) := by omega
      have hmc : (m : Int) ≤ (c : Int) := by omega
      have hstep : Hid (R = (nameS xs[m] && (!((xs.take m).any fun y => y.toList == xs[m].toList) && fresh nameS strLit (xs.take (m + 1)) (xs.drop (m + 1))))) := by
        rw [any_str, ← fresh_step nameS strLit xs m hlt]; exact hz.out.symm
      have hsm := hsH.out xs[m] (List.getElem_mem hlt)
      obtain ⟨s, hs⟩ : ∃ s, s = xs[m] := ⟨_, rfl⟩
      rw [← hs] at hcell hstep hsm
      have nH : Hid (∀ W, Calls Tryz.prog 23 #[.string s] W fun e w' => e = .returned (.bool (nameS s)) ∧ w' = W) := fun W => specName_calls s W (by omega)
      have iH : Hid (∀ c' n, Calls Tryz.prog 47 #[.slice (some ⟨b, off, none⟩) m c', .string s] (wr.drewN n) fun e w' => e = .returned (.bool ((xs.take m).any fun y => y.toList == s.toList)) ∧ w' = wr.drewN n) := fun c' n =>
        l2In_calls (some ⟨b, off, none⟩) m c' s (xs.take m) (wr.drewN n) (by simp; omega) (by omega) (fun j hj => by
          have hj2 : j < xs.length := by simp at hj; omega
          obtain ⟨b2, off2, h1, h2⟩ := cH.out j hj2
          obtain ⟨rfl, rfl⟩ : b = b2 ∧ off = off2 := by simpa using h1
          exact ⟨b, off, rfl, by rw [List.getElem_take, hw.out]; exact h2⟩)
      have nmH : Hid (nameS s = nameS s) := rfl
      generalize nameS s = nb at *
      generalize ((xs.take m).any fun y => y.toList == s.toList) = ib at *
      have hcellk : wr.cell? ⟨b, off + m, none⟩ = some (.string s) := by rw [hw.out]; exact hcell
      clear hz hs hsm nmH hcell
      cases nb with
      | false =>
        go_wp2
        go_quiet (first | (go_at_call 23; exact Calls.quiet_of_same (nH.out _)) | (go_at_call 47; exact Calls.quiet_of_same (iH.out _ _)))
        go_wp2
        go_ret
        exact ⟨by rw [hstep.out]; rfl, _, by rw [hw.out]; exact drewN_all w _ _⟩
      | true =>
        cases ib with
        | true =>
          go_wp2
          go_quiet (first | (go_at_call 23; exact Calls.quiet_of_same (nH.out _)) | (go_at_call 47; exact Calls.quiet_of_same (iH.out _ _)))
          go_wp2
          go_ret
          exact ⟨by rw [hstep.out]; rfl, _, by rw [hw.out]; exact drewN_all w _ _⟩
        | false =>
          go_wp2
          go_quiet (first | (go_at_call 23; exact Calls.quiet_of_same (nH.out _)) | (go_at_call 47; exact Calls.quiet_of_same (iH.out _ _)))
          go_wp2
          go_roundw
          case rel => exact ⟨m + 1, _, by omega, by go_num, (show _ = R by rw [hstep.out]; rfl), (by rw [hw.out]; exact drewN_all w _ _)⟩
          case measure => simp [intOf]; omega
    · have hend := hz.out
      rw [List.drop_eq_nil_of_le (by omega)] at hend
      have hR : R = true := hend.symm
      subst hR
      clear hend
      go_wp2
      go_ret
      exact ⟨rfl, _, hw.out⟩
end Go.Proofs.YthbledmeghkfpaaGreatDoor
