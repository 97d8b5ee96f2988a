import Derived.Test.YtjjccimeikkogaaGreatDoorClsA
set_option maxRecDepth 1000000
set_option maxHeartbeats 4000000
namespace Go.Proofs.YtjjccimeikkogaaGreatDoor
set_option linter.unusedVariables false
open Go.Maps Go.WideMaps
open Go.ChangeShapes Go.WideShapes Go.ChangeAt Go.RowKit
def fresh {α : Type} (ok : α → Bool) (key : α → List UInt8) : List α → List α → Bool
 | _, [] => true
 | acc, x :: r => ok x && (!(acc.any fun y => decide (key y = key x)) && fresh ok key (acc ++ [x]) r)
theorem fresh_eq {α : Type} (ok : α → Bool) (key : α → List UInt8) : ∀ (xs acc : List α), fresh ok key acc xs = (xs.all ok && decide ((xs.map key).Nodup ∧ ∀ x ∈ xs, ∀ y ∈ acc, key y ≠ key x))
 | [], acc => by simp [fresh]
 | x :: r, acc => by
  rw [fresh, fresh_eq ok key r (acc ++ [x])]
  cases hx : ok x
  ·simp [hx]
  ·simp only [List.all_cons, hx, Bool.true_and]
   cases hr : r.all ok
   ·simp
   ·simp only [Bool.true_and]
    by_cases ha : ∃ y ∈ acc, key y = key x
    ·obtain ⟨y, hy, e⟩ := ha
     have h1 : (acc.any fun y => decide (key y = key x)) = true := List.any_eq_true.2 ⟨y, hy, by simpa using e⟩
     rw [h1]
     symm
     simp only [Bool.not_true, Bool.false_and, decide_eq_false_iff_not, not_and]
     intro _ h2
     exact h2 x (by simp) y hy e
    ·have h1 : (acc.any fun y => decide (key y = key x)) = false := by
      rw [List.any_eq_false]
      intro y hy e
      exact ha ⟨y, hy, by simpa using e⟩
     rw [h1]
     simp only [Bool.not_false, Bool.true_and]
     apply decide_eq_decide.2
     simp only [List.map_cons, List.nodup_cons, List.mem_map, not_exists, not_and, List.mem_append, List.mem_cons, forall_eq_or_imp]
     constructor
     ·rintro ⟨h2, h3⟩
      refine ⟨⟨fun y hy e => h3 y hy x (.inr (.inl rfl)) e.symm, h2⟩, fun y hy e => ha ⟨y, hy, e⟩, fun z hz y hy => h3 z hz y (.inl hy)⟩
     ·rintro ⟨⟨h2, h3⟩, h4, h5⟩
      refine ⟨h3, fun z hz y hy => ?_⟩
      rcases hy with hy | rfl | hy
      ·exact h5 z hz y hy
      ·exact fun e => h2 z hz e.symm
      ·cases hy
theorem fresh_nil {α : Type} (ok : α → Bool) (key : α → List UInt8) (xs : List α) : fresh ok key [] xs = (xs.all ok && decide ((xs.map key).Nodup)) := by
 rw [fresh_eq]; congr 1; apply decide_eq_decide.2; simp
theorem less_irrefl : ∀ l : List UInt8, Op.bytesLess l l = false
 | [] => rfl
 | a :: r => by simp [Op.bytesLess, less_irrefl r]
theorem less_trans : ∀ {a b c : List UInt8}, Op.bytesLess a b = true → Op.bytesLess b c = true → Op.bytesLess a c = true
 | a, b, [], _, h2 => by cases b <;> cases h2
 | [], b, c :: lc, _, _ => rfl
 | a :: la, [], c :: lc, h1, _ => by cases h1
 | a :: la, b :: lb, c :: lc, h1, h2 => by
  simp only [Op.bytesLess, Bool.or_eq_true, Bool.and_eq_true, decide_eq_true_eq, beq_iff_eq] at h1 h2 ⊢
  rcases h1 with h1 | ⟨rfl, h1⟩
  ·rcases h2 with h2 | ⟨rfl, h2⟩
   ·exact .inl (UInt8.lt_trans h1 h2)
   ·exact .inl h1
  ·rcases h2 with h2 | ⟨rfl, h2⟩
   ·exact .inl h2
   ·exact .inr ⟨rfl, less_trans h1 h2⟩
def ascFrom : Option ByteArray → List ByteArray → Bool
 | _, [] => true
 | p, s :: r => (match p with | none => true | some q => Op.bytesLess q.toList s.toList) && ascFrom (some s) r
theorem asc_above : ∀ (xs : List ByteArray) (q : ByteArray), ascFrom (some q) xs = true → ∀ s ∈ xs, Op.bytesLess q.toList s.toList = true
 | [], _, _, _, hs => by cases hs
 | x :: r, q, h, s, hs => by
  simp only [ascFrom, Bool.and_eq_true] at h
  rcases List.mem_cons.1 hs with rfl | hs
  ·exact h.1
  ·exact less_trans h.1 (asc_above r x h.2 s hs)
theorem asc_nodup : ∀ (xs : List ByteArray) (p : Option ByteArray), ascFrom p xs = true → (xs.map strLit).Nodup
 | [], _, _ => List.nodup_nil
 | x :: r, p, h => by
  simp only [ascFrom, Bool.and_eq_true] at h
  rw [List.map_cons, List.nodup_cons]
  refine ⟨fun hm => ?_, asc_nodup r _ h.2⟩
  obtain ⟨s, hs, e⟩ := List.mem_map.1 hm
  have hl := asc_above r x h.2 s hs
  have : s = x := by
   unfold strLit at e
   exact ByteArray.ext (Array.toList_inj.1 e)
  rw [this, less_irrefl] at hl
  cases hl
def nameS (s : ByteArray) : Bool := nameOk s.data.toList
def fieldKey (x : FieldL) : List UInt8 := strLit x.name
def methKey (x : MethL) : List UInt8 := pairLit x.name x.sig
def namesB (xs : List ByteArray) : Bool := !decide ((40 : Int) < xs.length) && fresh nameS strLit [] xs
theorem allName_calls (v : Value) (xs : List ByteArray) (w : World) (lo hi : Nat) (hh : hi ≤ w.heap.size) (ht : ListAt StrR 1 true lo hi w v xs) (hn : xs.length ≤ 1048576) (hs : ∀ s ∈ xs, s.size ≤ 1048576) :
  Calls Tryz.prog 145 #[v, .func (.func 111) #[] #[]] w fun e w' => e = .returned (.bool (xs.all nameS)) ∧ Below w.heap.size w w' := by
 obtain ⟨a, c, rfl⟩ := ht.form
 have htH : Hid (∀ W, Below w.heap.size w W → ListAt StrR 1 true lo hi W (.slice a xs.length c) xs) := fun W hW => ht.kept StrR.stable (Nat.le_refl _) (Nat.le_refl _) ((Same.below hW).mono (Nat.zero_le _) hh)
 have shH : Hid (∀ s ∈ xs, ∀ W, Below w.heap.size w W → Calls Tryz.prog 111 #[.string s] W fun e w' => e = .returned (.bool (nameS s)) ∧ Below W.heap.size W w') := fun s hx W hW => implName_below s W (by have := hs s hx; omega)
 obtain ⟨R, hR⟩ : ∃ R, xs.all nameS = R := ⟨_, rfl⟩
 rw [hR]
 have hRH : Hid (xs.all nameS = R) := hR
 clear hR ht hh hs
 go_enter Tryz.func145, Tryz.ntmps145
 go_wp2
 go_loopw [9] (fun i wr => ∃ m : Nat, m ≤ xs.length ∧ i = .int .i64 m ∧ Hid ((xs.drop m).all nameS = R) ∧ Hid (Below w.heap.size w wr)) (fun i _ => xs.length - (intOf i).toNat)
 case atStart => exact ⟨0, Nat.zero_le _, rfl, hRH.out, Below.refl _ _⟩
 case round =>
  obtain ⟨m, hm, rfl, hz, hB⟩ := hrel
  by_cases hlt : m < xs.length
  ·obtain ⟨b, off, row, rfl, hbb, hrl, hrr, hrx⟩ := (htH.out wr hB.out).at m hlt
   have hrow : row = [.string xs[m]] := hrx
   have hcell : wr.cell? ⟨b, off + m, none⟩ = some (.string xs[m]) := by simpa using hrr 0 (.string xs[m]) (by rw [hrow]; rfl)
   have hlt' : (m : Int) < (xs.length : Int) := by omega
   have hstep : Hid (R = (nameS xs[m] && (xs.drop (m + 1)).all nameS)) := by
    have := hz.out
    rw [List.drop_eq_getElem_cons hlt] at this
    exact this.symm
   have hc : Hid (Calls Tryz.prog 111 #[.string xs[m]] wr fun e w' => e = .returned (.bool (nameS xs[m])) ∧ Below wr.heap.size wr w') := shH.out xs[m] (List.getElem_mem hlt) wr hB.out
   obtain ⟨s, hs⟩ : ∃ s, s = xs[m] := ⟨_, rfl⟩
   rw [← hs] at hcell hstep hc
   clear hrr hrl hrx hrow hs
   obtain ⟨sb, hsb⟩ : ∃ sb, nameS s = sb := ⟨_, rfl⟩
   rw [hsb] at hstep hc
   clear hsb
   cases sb with
   | false =>
    go_wp2_with (go_at_call 111; refine hc.out.mono ?_; rintro e w2 ⟨rfl, hb2⟩)
    go_ret
    exact ⟨by rw [hstep.out]; rfl, below_on2 hB.out hb2⟩
   | true =>
    go_wp2_with (go_at_call 111; refine hc.out.mono ?_; rintro e w2 ⟨rfl, hb2⟩)
    go_roundw
    case rel => exact ⟨m + 1, by omega, by go_num, (show _ = R by rw [hstep.out]; rfl), below_on2 hB.out hb2⟩
    case measure => simp [intOf]; omega
  ·have hend := hz.out
   rw [List.drop_eq_nil_of_le (by omega)] at hend
   have hR : R = true := hend.symm
   subst hR
   clear hend
   go_wp2
   go_ret
   exact ⟨rfl, hB.out⟩
def ahead (xs : List ByteArray) (m : Nat) : Option ByteArray := (xs.take m).getLast?
theorem ahead_zero (xs : List ByteArray) : ahead xs 0 = none := rfl
theorem ahead_succ (xs : List ByteArray) (m : Nat) (h : m < xs.length) : ahead xs (m + 1) = some xs[m] := by
 unfold ahead
 rw [← List.take_append_getElem h, List.getLast?_concat]
theorem asc_step (xs : List ByteArray) (m : Nat) (h : m < xs.length) : ascFrom (ahead xs m) (xs.drop m) = ((match ahead xs m with | none => true | some q => Op.bytesLess q.toList xs[m].toList) && ascFrom (ahead xs (m + 1)) (xs.drop (m + 1))) := by
 rw [List.drop_eq_getElem_cons h, ahead_succ xs m h]
 cases ahead xs m <;> rfl
theorem ascending_calls (v : Value) (xs : List ByteArray) (w : World) (lo hi : Nat) (ht : ListAt StrR 1 true lo hi w v xs) (hn : xs.length ≤ 1048576) :
  Calls Tryz.prog 147 #[v] w fun e w' => e = .returned (.bool (ascFrom none xs)) ∧ w' = w := by
 obtain ⟨a, c, rfl⟩ := ht.form
 have htH : Hid (ListAt StrR 1 true lo hi w (.slice a xs.length c) xs) := ht
 obtain ⟨R, hR⟩ : ∃ R, ascFrom none xs = R := ⟨_, rfl⟩
 rw [hR]
 have hRH : Hid (ascFrom none xs = R) := hR
 clear hR ht
 go_enter Tryz.func147, Tryz.ntmps147
 go_wp2
 go_loopw [7] (fun i wr => ∃ m : Nat, m ≤ xs.length ∧ i = .int .i64 m ∧ Hid (ascFrom (ahead xs m) (xs.drop m) = R) ∧ wr = w) (fun i _ => xs.length - (intOf i).toNat)
 case atStart => exact ⟨0, Nat.zero_le _, rfl, hRH.out, rfl⟩
 case round =>
  obtain ⟨m, hm, rfl, hz, rfl⟩ := hrel
  by_cases hlt : m < xs.length
  ·obtain ⟨b, off, rfl, hcell⟩ := htH.out.strAt m hlt
   have hlt' : (m : Int) < (xs.length : Int) := by omega
   have hstep : Hid (R = ((match ahead xs m with | none => true | some q => Op.bytesLess q.toList xs[m].toList) && ascFrom (ahead xs (m + 1)) (xs.drop (m + 1)))) := by
    rw [← asc_step xs m hlt]; exact hz.out.symm
   cases m with
   | zero =>
    obtain ⟨s, hs⟩ : ∃ s, s = xs[0] := ⟨_, rfl⟩
    rw [← hs] at hcell hstep
    have hst : Hid (R = ascFrom (ahead xs 1) (xs.drop 1)) := by
     have := hstep.out
     simpa [ahead_zero, Hid] using this
    have hcell0 : wr.cell? ⟨b, off, none⟩ = some (.string s) := hcell
    clear hstep hz hs hcell
    go_wp2
    go_roundw
    case rel => exact ⟨1, by omega, by go_num, hst.out.symm, trivial⟩
    case measure => simp [intOf]; omega
   | succ k =>
    obtain ⟨b2, off2, hb2, hcell2⟩ := htH.out.strAt k (by omega)
    obtain ⟨rfl, rfl⟩ : b = b2 ∧ off = off2 := by simpa using hb2
    have hah := ahead_succ xs k (by omega)
    obtain ⟨s, hs⟩ : ∃ s, s = xs[k + 1] := ⟨_, rfl⟩
    obtain ⟨q, hq⟩ : ∃ q, q = xs[k] := ⟨_, rfl⟩
    rw [← hs] at hcell hstep
    rw [← hq] at hcell2 hah
    have hst : Hid (R = (Op.bytesLess q.toList s.toList && ascFrom (ahead xs (k + 1 + 1)) (xs.drop (k + 1 + 1)))) := by
     have := hstep.out
     rw [hah] at this
     exact this
    have hk0 : (0 : Int) < ((k + 1 : Nat) : Int) := by omega
    clear hstep hz hs hq hah hb2
    cases hl : Op.bytesLess q.toList s.toList with
    | true =>
     rw [hl] at hst
     go_wp2
     go_roundw
     case rel => exact ⟨k + 1 + 1, by omega, by go_num, (show _ = R by rw [hst.out]; rfl), trivial⟩
     case measure => simp [intOf]; omega
    | false =>
     rw [hl] at hst
     go_wp2
     go_ret
     exact ⟨by rw [hst.out]; rfl, rfl⟩
  ·have hend := hz.out
   rw [List.drop_eq_nil_of_le (by omega)] at hend
   have hR : R = true := hend.symm
   subst hR
   clear hend
   go_wp2
   go_ret
   exact ⟨rfl, rfl⟩
theorem l2In_calls (a : Option Addr) (n c : Nat) (s : ByteArray) (xs : List ByteArray) (w : World) (hxn : xs.length = n) (hn : n ≤ 1048576) (hc : ∀ k (h : k < xs.length), ∃ b off, a = some ⟨b, off, none⟩ ∧ w.cell? ⟨b, off + k, none⟩ = some (.string xs[k])) :
  Calls Tryz.prog 44 #[.slice a n c, .string s] w fun e w' => e = .returned (.bool (xs.any fun y => y.toList == s.toList)) ∧ w' = w := by
 have hcH : Hid (∀ k (h : k < xs.length), ∃ b off, a = some ⟨b, off, none⟩ ∧ w.cell? ⟨b, off + k, none⟩ = some (.string xs[k])) := hc
 have hnH : Hid (xs.length = n) := hxn
 obtain ⟨R, hR⟩ : ∃ R, (xs.any fun y => y.toList == s.toList) = R := ⟨_, rfl⟩
 rw [hR]
 have hRH : Hid ((xs.any fun y => y.toList == s.toList) = R) := hR
 clear hR hc hxn
 go_enter Tryz.func44, Tryz.ntmps44
 go_wp2
 go_loopw [5] (fun i wr => ∃ m : Nat, m ≤ n ∧ i = .int .i64 m ∧ Hid (((xs.drop m).any fun y => y.toList == s.toList) = R) ∧ wr = w) (fun i _ => n - (intOf i).toNat)
 case atStart => exact ⟨0, Nat.zero_le _, rfl, hRH.out, rfl⟩
 case round =>
  obtain ⟨m, hm, rfl, hz, rfl⟩ := hrel
  by_cases hlt : m < n
  ·obtain ⟨b, off, rfl, hcell⟩ := hcH.out m (by have := hnH.out; omega)
   have hlt' : (m : Int) < (n : Int) := by omega
   have hltx : m < xs.length := by have := hnH.out; omega
   have hstep : Hid (R = ((xs[m].toList == s.toList) || ((xs.drop (m + 1)).any fun y => y.toList == s.toList))) := by
    have := hz.out
    rw [List.drop_eq_getElem_cons hltx] at this
    exact this.symm
   obtain ⟨y, hy⟩ : ∃ y, y = xs[m] := ⟨_, rfl⟩
   rw [← hy] at hcell hstep
   clear hz hy
   cases he : (y.toList == s.toList) with
   | true =>
    rw [he] at hstep
    go_wp2
    go_ret
    exact ⟨by rw [hstep.out]; rfl, rfl⟩
   | false =>
    rw [he] at hstep
    go_wp2
    go_roundw
    case rel => exact ⟨m + 1, by omega, by go_num, (show _ = R by rw [hstep.out]; rfl), trivial⟩
    case measure => simp [intOf]; omega
  ·have hend := hz.out
   rw [List.drop_eq_nil_of_le (by have := hnH.out; omega)] at hend
   have hR : R = false := hend.symm
   subst hR
   clear hend
   go_wp2
   go_ret
   exact ⟨rfl, rfl⟩
theorem str_eq (y x : ByteArray) : (y.toList == x.toList) = decide (strLit y = strLit x) := by
 unfold strLit
 rw [ByteArray.toList_eq, ByteArray.toList_eq, Bool.eq_iff_iff, beq_iff_eq, decide_eq_true_iff]
theorem any_str (acc : List ByteArray) (x : ByteArray) : (acc.any fun y => y.toList == x.toList) = acc.any fun y => decide (strLit y = strLit x) := by
 congr 1
 funext y
 exact str_eq y x
theorem fresh_step {α : Type} (ok : α → Bool) (key : α → List UInt8) (xs : List α) (m : Nat) (h : m < xs.length) :
  fresh ok key (xs.take m) (xs.drop m) = (ok xs[m] && (!((xs.take m).any fun y => decide (key y = key xs[m])) && fresh ok key (xs.take (m + 1)) (xs.drop (m + 1)))) := by
 rw [List.drop_eq_getElem_cons h, ← List.take_append_getElem h]
 rfl
theorem drewN_all (w : World) (n k : Nat) : (w.drewN n).drewN k = w.drewN (n + k) := World.drewN_drewN w n k
theorem l2Names_calls (v : Value) (xs : List ByteArray) (w : World) (lo hi : Nat) (ht : StrsAt true lo hi w v xs) (hn : xs.length ≤ 1048576) (hs : ∀ s ∈ xs, s.size ≤ 1048576) :
  Calls Tryz.prog 103 #[v] w fun e w' => e = .returned (.bool (namesB xs)) ∧ ∃ n, w' = w.drewN n := by
 obtain ⟨a, c, rfl⟩ := ht.form
 have hcap : xs.length ≤ c := ht.2 rfl a xs.length c rfl
 have cH : Hid (∀ k (h : k < xs.length), ∃ b off, a = some ⟨b, off, none⟩ ∧ w.cell? ⟨b, off + k, none⟩ = some (.string xs[k])) := fun k h => ht.1.strAt k h
 have hsH : Hid (∀ s ∈ xs, s.size ≤ 1048576) := hs
 obtain ⟨R, hR⟩ : ∃ R, namesB xs = R := ⟨_, rfl⟩
 rw [hR]
 unfold namesB at hR
 by_cases h40 : (40 : Int) < xs.length
 ·rw [decide_eq_true h40] at hR
  have hR : R = false := hR.symm
  subst hR
  clear ht hs
  go_enter Tryz.func103, Tryz.ntmps103
  go_wp2
  go_ret
  exact ⟨rfl, 0, rfl⟩
 rw [decide_eq_false h40] at hR
 have hRH : Hid (fresh nameS strLit [] xs = R) := by simpa [Hid] using hR
 clear hR ht hs
 go_enter Tryz.func103, Tryz.ntmps103
 go_wp2
 go_loopw [3] (fun i wr => ∃ m k : Nat, m ≤ xs.length ∧ i = .int .i64 m ∧ Hid (fresh nameS strLit (xs.take m) (xs.drop m) = R) ∧ Hid (wr = w.drewN k)) (fun i _ => xs.length - (intOf i).toNat)
 case atStart => exact ⟨0, 0, Nat.zero_le _, rfl, hRH.out, rfl⟩
 case round =>
  obtain ⟨m, k, hm, rfl, hz, hw⟩ := hrel
  by_cases hlt : m < xs.length
  ·obtain ⟨b, off, rfl, hcell⟩ := cH.out m hlt
   have hlt' : (m : Int) < (xs.length : Int) := by omega
   have hmc : (m : Int) ≤ (c : Int) := by omega
   have hstep : Hid (R = (nameS xs[m] && (!((xs.take m).any fun y => y.toList == xs[m].toList) && fresh nameS strLit (xs.take (m + 1)) (xs.drop (m + 1))))) := by
    rw [any_str, ← fresh_step nameS strLit xs m hlt]; exact hz.out.symm
   have hsm := hsH.out xs[m] (List.getElem_mem hlt)
   obtain ⟨s, hs⟩ : ∃ s, s = xs[m] := ⟨_, rfl⟩
   rw [← hs] at hcell hstep hsm
   have nH : Hid (∀ W, Calls Tryz.prog 90 #[.string s] W fun e w' => e = .returned (.bool (nameS s)) ∧ w' = W) := fun W => specName_calls s W (by omega)
   have iH : Hid (∀ c' n, Calls Tryz.prog 44 #[.slice (some ⟨b, off, none⟩) m c', .string s] (wr.drewN n) fun e w' => e = .returned (.bool ((xs.take m).any fun y => y.toList == s.toList)) ∧ w' = wr.drewN n) := fun c' n =>
    l2In_calls (some ⟨b, off, none⟩) m c' s (xs.take m) (wr.drewN n) (by simp; omega) (by omega) (fun j hj => by
     have hj2 : j < xs.length := by simp at hj; omega
     obtain ⟨b2, off2, h1, h2⟩ := cH.out j hj2
     obtain ⟨rfl, rfl⟩ : b = b2 ∧ off = off2 := by simpa using h1
     exact ⟨b, off, rfl, by rw [List.getElem_take, hw.out]; exact h2⟩)
   have nmH : Hid (nameS s = nameS s) := rfl
   generalize nameS s = nb at *
   generalize ((xs.take m).any fun y => y.toList == s.toList) = ib at *
   have hcellk : wr.cell? ⟨b, off + m, none⟩ = some (.string s) := by rw [hw.out]; exact hcell
   clear hz hs hsm nmH hcell
   cases nb with
   | false =>
    go_wp2
    go_quiet (first | (go_at_call 90; exact Calls.quiet_of_same (nH.out _)) | (go_at_call 44; exact Calls.quiet_of_same (iH.out _ _)))
    go_wp2
    go_ret
    exact ⟨by rw [hstep.out]; rfl, _, by rw [hw.out]; exact drewN_all w _ _⟩
   | true =>
    cases ib with
    | true =>
     go_wp2
     go_quiet (first | (go_at_call 90; exact Calls.quiet_of_same (nH.out _)) | (go_at_call 44; exact Calls.quiet_of_same (iH.out _ _)))
     go_wp2
     go_ret
     exact ⟨by rw [hstep.out]; rfl, _, by rw [hw.out]; exact drewN_all w _ _⟩
    | false =>
     go_wp2
     go_quiet (first | (go_at_call 90; exact Calls.quiet_of_same (nH.out _)) | (go_at_call 44; exact Calls.quiet_of_same (iH.out _ _)))
     go_wp2
     go_roundw
     case rel => exact ⟨m + 1, _, by omega, by go_num, (show _ = R by rw [hstep.out]; rfl), (by rw [hw.out]; exact drewN_all w _ _)⟩
     case measure => simp [intOf]; omega
  ·have hend := hz.out
   rw [List.drop_eq_nil_of_le (by omega)] at hend
   have hR : R = true := hend.symm
   subst hR
   clear hend
   go_wp2
   go_ret
   exact ⟨rfl, _, hw.out⟩
def fieldS (g : Int) (x : FieldL) : Bool := !(!nameS x.name || (!typeL x.ty.data.toList || (!flagB x.flags 27 || (hasB x.flags 2 && hasB x.flags 16)))) && !(hasB g 128 && !(x.flags == 3))
def fieldsS (g : Int) (xs : List FieldL) : Bool := !decide ((40 : Int) < xs.length) && fresh (fieldS g) fieldKey [] xs
theorem Rec1.drew {w W : World} {I : List Value} (h : Rec1 w W I) (n : Nat) : Rec1 w (W.drewN n) I := ⟨below_drewN h.hb n, h.sz, h.one⟩
theorem cell_lastC (w : World) (row : Array Value) (t : TypeId) (v : Value) (i : Nat) (h : row[i]? = some v) : (w.alloc (.cells row t)).cell? ⟨w.heap.size, i, none⟩ = some v := by
 have h0 : (w.alloc (.cells row t)).heap[w.heap.size]? = some (.cells row t (0, 0)) := heap_alloc_new w _
 have := rangeAt_heap h0 i v (by simpa using h)
 simpa using this
theorem any_step {α : Type} (p : α → Bool) (xs : List α) (m j : Nat) (h : j < m) (hm : m ≤ xs.length) : ((xs.take m).drop j).any p = (p (xs[j]'(by omega)) || ((xs.take m).drop (j + 1)).any p) := by
 rw [List.drop_eq_getElem_cons (by simp; omega), List.any_cons, List.getElem_take]
theorem any_done {α : Type} (p : α → Bool) (xs : List α) (m j : Nat) (h : ¬ j < m) : ((xs.take m).drop j).any p = false := by
 rw [List.drop_eq_nil_of_le (by simp; omega)]; rfl
theorem l2FieldsOk_walk (N S : ByteArray) (f : Int) (a1 : Option Addr) (n1 c1 : Nat) (a2 : Option Addr) (n2 c2 : Nat) (a3 : Option Addr) (n3 c3 : Nat) (a4 : Option Addr) (n4 c4 : Nat) (w : World) (xs : List FieldL) (lo hi : Nat) (hh : hi ≤ w.heap.size) (ht : ListAt FieldR 3 true lo hi w (.slice a3 n3 c3) xs) (hx : xs.length = n3) (hn : n3 ≤ 1048576) (hs : ∀ x ∈ xs, x.small) :
  Calls Tryz.prog 105 #[.agg #[.string N, .string S, .slice a1 n1 c1, .int .i64 f, .slice a2 n2 c2, .slice a3 n3 c3, .slice a4 n4 c4]] w fun e w' => e = .returned (.bool (fieldsS f xs)) ∧ Below w.heap.size w w' := by
 have htH : Hid (∀ W, Below w.heap.size w W → ListAt FieldR 3 true lo hi W (.slice a3 n3 c3) xs) := fun W hW => ht.kept FieldR.stable (Nat.le_refl _) (Nat.le_refl _) ((Same.below hW).mono (Nat.zero_le _) hh)
 have hsH : Hid (∀ x ∈ xs, x.small) := hs
 have hxH : Hid (xs.length = n3) := hx
 have hhH : Hid (hi ≤ w.heap.size) := hh
 have isz : Hid ((Tryz.prog.info? 36).map (·.size) = some 3) := by show (Tryz.prog.info? 36).map (·.size) = some 3; kernel_rfl
 have fH : Hid (∀ h g W, Calls Tryz.prog 96 #[.int .i64 h, .int .i64 g] W fun e w' => e = .returned (.bool (hasB h g)) ∧ w' = W) := fun h g W => l2Has_calls h g W
 obtain ⟨R, hR⟩ : ∃ R, fieldsS f xs = R := ⟨_, rfl⟩
 rw [hR]
 unfold fieldsS at hR
 rw [hx] at hR
 by_cases h40 : (40 : Int) < n3
 ·rw [decide_eq_true h40] at hR
  have hR : R = false := hR.symm
  subst hR
  clear ht hs hx hh
  go_enter Tryz.func105, Tryz.ntmps105
  go_wp2
  go_ret
  exact ⟨rfl, below_1 _ _⟩
 rw [decide_eq_false h40] at hR
 have hRH : Hid (fresh (fieldS f) fieldKey [] xs = R) := by simpa [Hid] using hR
 clear hR ht hs hx hh
 go_enter Tryz.func105, Tryz.ntmps105
 go_wp2
 go_loopw [3] (fun i wr => ∃ m : Nat, m ≤ n3 ∧ i = .int .i64 m ∧ Hid (fresh (fieldS f) fieldKey (xs.take m) (xs.drop m) = R) ∧ Hid (Rec1 w wr [.string N, .string S, .slice a1 n1 c1, .int .i64 f, .slice a2 n2 c2, .slice a3 n3 c3, .slice a4 n4 c4])) (fun i _ => n3 - (intOf i).toNat)
 case atStart => exact ⟨0, Nat.zero_le _, rfl, hRH.out, Rec1.start rfl⟩
 case round =>
  rename World => wo
  obtain ⟨m, hm, rfl, hz, hB⟩ := hrel
  have y3 := hB.out.cell 3 _ rfl
  have y5 := hB.out.cell 5 _ rfl
  by_cases hlt : m < n3
  ·have hltx : m < xs.length := by rw [hxH.out]; exact hlt
   obtain ⟨b, off, row, rfl, hbb, hrl, hrr, hrx⟩ := (htH.out wo hB.out.hb).at m hltx
   have hlt' : (m : Int) < (n3 : Int) := by omega
   have hstep := fresh_step (fieldS f) fieldKey xs m hltx
   rw [hz.out] at hstep
   have hsm := hsH.out _ (List.getElem_mem hltx)
   obtain ⟨x, hxm⟩ : ∃ x, x = xs[m] := ⟨_, rfl⟩
   rw [← hxm] at hrx hstep hsm
   obtain rfl : row = [.string x.name, .string x.ty, .int .i64 x.flags] := hrx
   obtain ⟨hsn, hst⟩ := hsm
   have nH : Hid (∀ W, Calls Tryz.prog 90 #[.string x.name] W fun e w' => e = .returned (.bool (nameS x.name)) ∧ w' = W) := fun W => specName_calls x.name W (by omega)
   have tH : Hid (∀ W, Calls Tryz.prog 61 #[.string x.ty] W fun e w' => e = .returned (.bool (typeL x.ty.data.toList)) ∧ w' = W) := fun W => specType_calls x.ty W (by omega)
   have gH : Hid (∀ W, Calls Tryz.prog 104 #[.int .i64 x.flags, .int .i64 27] W fun e w' => e = .returned (.bool (flagB x.flags 27)) ∧ w' = W) := fun W => l2Flags_calls x.flags 27 W
   have e0 : wo.cell? ⟨b, off + m * 3, none⟩ = some (.string x.name) := hrr 0 _ rfl
   have e1 : wo.cell? ⟨b, off + m * 3 + 1, none⟩ = some (.string x.ty) := hrr 1 _ rfl
   have e2 : wo.cell? ⟨b, off + m * 3 + 2, none⟩ = some (.int .i64 x.flags) := hrr 2 _ rfl
   have hBn : Hid (Rec1 w (wo.alloc (.cells #[.string x.name, .string x.ty, .int .i64 x.flags] 36)) [.string N, .string S, .slice a1 n1 c1, .int .i64 f, .slice a2 n2 c2, .slice (some ⟨b, off, none⟩) n3 c3, .slice a4 n4 c4]) := hB.out.call (below_1 _ _)
   have z3 := hBn.out.cell 3 _ rfl
   have z5 := hBn.out.cell 5 _ rfl
   have cjH : Hid (∀ j (hj : j < m), wo.cell? ⟨b, off + j * 3, none⟩ = some (.string (xs[j]'(by omega)).name)) := fun j hj => by
    obtain ⟨b2, off2, row2, h1, _, h3, h4, h5⟩ := (htH.out wo hB.out.hb).at j (by omega)
    obtain ⟨rfl, rfl⟩ : b = b2 ∧ off = off2 := by simpa using h1
    have h5' : row2 = [.string xs[j].name, .string xs[j].ty, .int .i64 xs[j].flags] := h5
    simpa using h4 0 (.string xs[j].name) (by rw [h5']; rfl)
   have hbl : Hid (b < wo.heap.size) := by have := hhH.out; have := hB.out.hb.size; show b < wo.heap.size; omega
   obtain ⟨ok, hok⟩ : ∃ ok, fieldS f x = ok := ⟨_, rfl⟩
   obtain ⟨A, hA⟩ : ∃ A, ((xs.take m).any fun y => decide (fieldKey y = fieldKey x)) = A := ⟨_, rfl⟩
   obtain ⟨FR, hFR⟩ : ∃ FR, fresh (fieldS f) fieldKey (xs.take (m + 1)) (xs.drop (m + 1)) = FR := ⟨_, rfl⟩
   rw [hok, hA, hFR] at hstep
   have hstepH : Hid (R = (ok && (!A && FR))) := hstep
   have hAH : Hid (((xs.take m).any fun y => decide (fieldKey y = fieldKey x)) = A) := hA
   have hFRH : Hid (fresh (fieldS f) fieldKey (xs.take (m + 1)) (xs.drop (m + 1)) = FR) := hFR
   unfold fieldS at hok
   generalize nameS x.name = nb at *
   generalize typeL x.ty.data.toList = tb at *
   generalize flagB x.flags 27 = gb at *
   clear hstep hA hFR hz hxm hrr hrl hbb hsn hst
   cases nb with
   | false =>
    have hRf : R = false := by rw [hstepH.out, ← hok]; rfl
    subst hRf
    clear hok
    go_wp2_with (first | (go_at_call 90; refine (nH.out _).mono ?_; rintro e w2 ⟨rfl, rfl⟩) | (go_at_call 61; refine (tH.out _).mono ?_; rintro e w2 ⟨rfl, rfl⟩) | (go_at_call 104; refine (gH.out _).mono ?_; rintro e w2 ⟨rfl, rfl⟩) | (go_at_call 96; refine (fH.out _ _ _).mono ?_; rintro e w2 ⟨rfl, rfl⟩))
    go_ret
    exact ⟨rfl, hBn.out.hb⟩
   | true =>
    cases tb with
    | false =>
     have hRf : R = false := by rw [hstepH.out, ← hok]; rfl
     subst hRf
     clear hok
     go_wp2_with (first | (go_at_call 90; refine (nH.out _).mono ?_; rintro e w2 ⟨rfl, rfl⟩) | (go_at_call 61; refine (tH.out _).mono ?_; rintro e w2 ⟨rfl, rfl⟩) | (go_at_call 104; refine (gH.out _).mono ?_; rintro e w2 ⟨rfl, rfl⟩) | (go_at_call 96; refine (fH.out _ _ _).mono ?_; rintro e w2 ⟨rfl, rfl⟩))
     go_ret
     exact ⟨rfl, hBn.out.hb⟩
    | true =>
     cases gb with
     | false =>
      have hRf : R = false := by rw [hstepH.out, ← hok]; rfl
      subst hRf
      clear hok
      go_wp2_with (first | (go_at_call 90; refine (nH.out _).mono ?_; rintro e w2 ⟨rfl, rfl⟩) | (go_at_call 61; refine (tH.out _).mono ?_; rintro e w2 ⟨rfl, rfl⟩) | (go_at_call 104; refine (gH.out _).mono ?_; rintro e w2 ⟨rfl, rfl⟩) | (go_at_call 96; refine (fH.out _ _ _).mono ?_; rintro e w2 ⟨rfl, rfl⟩))
      go_ret
      exact ⟨rfl, hBn.out.hb⟩
     | true =>
      cases h2 : hasB x.flags 2 <;> cases h16 : hasB x.flags 16 <;> rw [h2, h16] at hok
      ·skip
       cases h8 : hasB f 128 <;> rw [h8] at hok
       ·have hb3 : True := trivial
        have hRt : Hid (R = (!A && FR)) := by show R = _; rw [hstepH.out, ← hok]; rfl
        clear hok hstepH
        go_wp2_with (first | (go_at_call 90; refine (nH.out _).mono ?_; rintro e w2 ⟨rfl, rfl⟩) | (go_at_call 61; refine (tH.out _).mono ?_; rintro e w2 ⟨rfl, rfl⟩) | (go_at_call 104; refine (gH.out _).mono ?_; rintro e w2 ⟨rfl, rfl⟩) | (go_at_call 96; refine (fH.out _ _ _).mono ?_; rintro e w2 ⟨rfl, rfl⟩))
        go_loopw [5] (fun i wr => ∃ j d : Nat, j ≤ m ∧ i = .int .i64 j ∧ Hid ((((xs.take m).drop j).any fun y => decide (fieldKey y = fieldKey x)) = A) ∧ Hid (wr = (wo.alloc (.cells #[.string x.name, .string x.ty, .int .i64 x.flags] 36)).drewN d)) (fun i _ => m - (intOf i).toNat)
        case atStart => exact ⟨0, 0, Nat.zero_le _, rfl, hAH.out, rfl⟩
        case round =>
         obtain ⟨j, d, hj, rfl, hz, hw⟩ := hrel
         have q5 : wr.cell? ⟨w.heap.size, 5, none⟩ = some (.slice (some ⟨b, off, none⟩) n3 c3) := by rw [hw.out]; exact z5
         have q0 : wr.cell? ⟨wo.heap.size, 0, none⟩ = some (.string x.name) := by rw [hw.out]; exact cell_lastC _ _ _ _ 0 rfl
         clear z3 z5 y3 y5
         by_cases hjm : j < m
         ·have hjn : (j : Int) < (n3 : Int) := by omega
          have hjm' : (j : Int) < (m : Int) := by omega
          have hcj : wr.cell? ⟨b, off + j * 3, none⟩ = some (.string (xs[j]'(by omega)).name) := by
           rw [hw.out]
           exact ((below_1 wo _).cell (p := ⟨b, off + j * 3, none⟩) hbl.out).trans (cjH.out j hjm)
          have hst2 := any_step (fun y : FieldL => decide (fieldKey y = fieldKey x)) xs m j hjm (by omega)
          rw [hz.out] at hst2
          have hkk : decide (fieldKey (xs[j]'(by omega)) = fieldKey x) = ((xs[j]'(by omega)).name.toList == x.name.toList) := (str_eq _ _).symm
          rw [hkk] at hst2
          obtain ⟨s, hs⟩ : ∃ s, s = (xs[j]'(by omega)).name := ⟨_, rfl⟩
          rw [← hs] at hcj hst2
          have hst2H : Hid (A = ((s.toList == x.name.toList) || (((xs.take m).drop (j + 1)).any fun y => decide (fieldKey y = fieldKey x)))) := hst2
          clear hst2 hkk hs hz
          cases he : (s.toList == x.name.toList) with
          | true =>
           rw [he] at hst2H
           go_wp2
           go_quiet (fail)
           go_wp2
           go_ret
           exact ⟨by rw [hRt.out, hst2H.out]; rfl, by rw [hw.out]; exact below_drewN (below_drewN hBn.out.hb _) _⟩
          | false =>
           rw [he] at hst2H
           go_wp2
           go_quiet (fail)
           go_wp2
           go_roundw
           case rel => exact ⟨j + 1, _, by omega, by go_num, (show _ = A by rw [hst2H.out]; rfl), (by rw [hw.out]; exact drewN_all _ _ _)⟩
           case measure => simp [intOf]; omega
         ·have hA0 : A = false := by rw [← hz.out]; exact any_done _ xs m j hjm
          subst hA0
          go_wp2
          go_roundw
          case rel => exact ⟨m + 1, by omega, by go_num, (show _ = R by rw [hRt.out, hFRH.out]; rfl), (by rw [hw.out]; exact hBn.out.drew _)⟩
          case measure => simp [intOf]; omega
       ·cases hb3 : (x.flags == 3) <;> rw [hb3] at hok
        ·have hbn : (x.flags != 3) = true := by simp only [bne, hb3]; rfl
         have hRf : R = false := by rw [hstepH.out, ← hok]; rfl
         subst hRf
         clear hok
         go_wp2_with (first | (go_at_call 90; refine (nH.out _).mono ?_; rintro e w2 ⟨rfl, rfl⟩) | (go_at_call 61; refine (tH.out _).mono ?_; rintro e w2 ⟨rfl, rfl⟩) | (go_at_call 104; refine (gH.out _).mono ?_; rintro e w2 ⟨rfl, rfl⟩) | (go_at_call 96; refine (fH.out _ _ _).mono ?_; rintro e w2 ⟨rfl, rfl⟩))
         go_ret
         exact ⟨rfl, hBn.out.hb⟩
        ·have hbn : (x.flags != 3) = false := by simp only [bne, hb3]; rfl
         have hRt : Hid (R = (!A && FR)) := by show R = _; rw [hstepH.out, ← hok]; rfl
         clear hok hstepH
         go_wp2_with (first | (go_at_call 90; refine (nH.out _).mono ?_; rintro e w2 ⟨rfl, rfl⟩) | (go_at_call 61; refine (tH.out _).mono ?_; rintro e w2 ⟨rfl, rfl⟩) | (go_at_call 104; refine (gH.out _).mono ?_; rintro e w2 ⟨rfl, rfl⟩) | (go_at_call 96; refine (fH.out _ _ _).mono ?_; rintro e w2 ⟨rfl, rfl⟩))
         go_loopw [5] (fun i wr => ∃ j d : Nat, j ≤ m ∧ i = .int .i64 j ∧ Hid ((((xs.take m).drop j).any fun y => decide (fieldKey y = fieldKey x)) = A) ∧ Hid (wr = (wo.alloc (.cells #[.string x.name, .string x.ty, .int .i64 x.flags] 36)).drewN d)) (fun i _ => m - (intOf i).toNat)
         case atStart => exact ⟨0, 0, Nat.zero_le _, rfl, hAH.out, rfl⟩
         case round =>
          obtain ⟨j, d, hj, rfl, hz, hw⟩ := hrel
          have q5 : wr.cell? ⟨w.heap.size, 5, none⟩ = some (.slice (some ⟨b, off, none⟩) n3 c3) := by rw [hw.out]; exact z5
          have q0 : wr.cell? ⟨wo.heap.size, 0, none⟩ = some (.string x.name) := by rw [hw.out]; exact cell_lastC _ _ _ _ 0 rfl
          clear z3 z5 y3 y5
          by_cases hjm : j < m
          ·have hjn : (j : Int) < (n3 : Int) := by omega
           have hjm' : (j : Int) < (m : Int) := by omega
           have hcj : wr.cell? ⟨b, off + j * 3, none⟩ = some (.string (xs[j]'(by omega)).name) := by
            rw [hw.out]
            exact ((below_1 wo _).cell (p := ⟨b, off + j * 3, none⟩) hbl.out).trans (cjH.out j hjm)
           have hst2 := any_step (fun y : FieldL => decide (fieldKey y = fieldKey x)) xs m j hjm (by omega)
           rw [hz.out] at hst2
           have hkk : decide (fieldKey (xs[j]'(by omega)) = fieldKey x) = ((xs[j]'(by omega)).name.toList == x.name.toList) := (str_eq _ _).symm
           rw [hkk] at hst2
           obtain ⟨s, hs⟩ : ∃ s, s = (xs[j]'(by omega)).name := ⟨_, rfl⟩
           rw [← hs] at hcj hst2
           have hst2H : Hid (A = ((s.toList == x.name.toList) || (((xs.take m).drop (j + 1)).any fun y => decide (fieldKey y = fieldKey x)))) := hst2
           clear hst2 hkk hs hz
           cases he : (s.toList == x.name.toList) with
           | true =>
            rw [he] at hst2H
            go_wp2
            go_quiet (fail)
            go_wp2
            go_ret
            exact ⟨by rw [hRt.out, hst2H.out]; rfl, by rw [hw.out]; exact below_drewN (below_drewN hBn.out.hb _) _⟩
           | false =>
            rw [he] at hst2H
            go_wp2
            go_quiet (fail)
            go_wp2
            go_roundw
            case rel => exact ⟨j + 1, _, by omega, by go_num, (show _ = A by rw [hst2H.out]; rfl), (by rw [hw.out]; exact drewN_all _ _ _)⟩
            case measure => simp [intOf]; omega
          ·have hA0 : A = false := by rw [← hz.out]; exact any_done _ xs m j hjm
           subst hA0
           go_wp2
           go_roundw
           case rel => exact ⟨m + 1, by omega, by go_num, (show _ = R by rw [hRt.out, hFRH.out]; rfl), (by rw [hw.out]; exact hBn.out.drew _)⟩
           case measure => simp [intOf]; omega
      ·skip
       cases h8 : hasB f 128 <;> rw [h8] at hok
       ·have hb3 : True := trivial
        have hRt : Hid (R = (!A && FR)) := by show R = _; rw [hstepH.out, ← hok]; rfl
        clear hok hstepH
        go_wp2_with (first | (go_at_call 90; refine (nH.out _).mono ?_; rintro e w2 ⟨rfl, rfl⟩) | (go_at_call 61; refine (tH.out _).mono ?_; rintro e w2 ⟨rfl, rfl⟩) | (go_at_call 104; refine (gH.out _).mono ?_; rintro e w2 ⟨rfl, rfl⟩) | (go_at_call 96; refine (fH.out _ _ _).mono ?_; rintro e w2 ⟨rfl, rfl⟩))
        go_loopw [5] (fun i wr => ∃ j d : Nat, j ≤ m ∧ i = .int .i64 j ∧ Hid ((((xs.take m).drop j).any fun y => decide (fieldKey y = fieldKey x)) = A) ∧ Hid (wr = (wo.alloc (.cells #[.string x.name, .string x.ty, .int .i64 x.flags] 36)).drewN d)) (fun i _ => m - (intOf i).toNat)
        case atStart => exact ⟨0, 0, Nat.zero_le _, rfl, hAH.out, rfl⟩
        case round =>
         obtain ⟨j, d, hj, rfl, hz, hw⟩ := hrel
         have q5 : wr.cell? ⟨w.heap.size, 5, none⟩ = some (.slice (some ⟨b, off, none⟩) n3 c3) := by rw [hw.out]; exact z5
         have q0 : wr.cell? ⟨wo.heap.size, 0, none⟩ = some (.string x.name) := by rw [hw.out]; exact cell_lastC _ _ _ _ 0 rfl
         clear z3 z5 y3 y5
         by_cases hjm : j < m
         ·have hjn : (j : Int) < (n3 : Int) := by omega
          have hjm' : (j : Int) < (m : Int) := by omega
          have hcj : wr.cell? ⟨b, off + j * 3, none⟩ = some (.string (xs[j]'(by omega)).name) := by
           rw [hw.out]
           exact ((below_1 wo _).cell (p := ⟨b, off + j * 3, none⟩) hbl.out).trans (cjH.out j hjm)
          have hst2 := any_step (fun y : FieldL => decide (fieldKey y = fieldKey x)) xs m j hjm (by omega)
          rw [hz.out] at hst2
          have hkk : decide (fieldKey (xs[j]'(by omega)) = fieldKey x) = ((xs[j]'(by omega)).name.toList == x.name.toList) := (str_eq _ _).symm
          rw [hkk] at hst2
          obtain ⟨s, hs⟩ : ∃ s, s = (xs[j]'(by omega)).name := ⟨_, rfl⟩
          rw [← hs] at hcj hst2
          have hst2H : Hid (A = ((s.toList == x.name.toList) || (((xs.take m).drop (j + 1)).any fun y => decide (fieldKey y = fieldKey x)))) := hst2
          clear hst2 hkk hs hz
          cases he : (s.toList == x.name.toList) with
          | true =>
           rw [he] at hst2H
           go_wp2
           go_quiet (fail)
           go_wp2
           go_ret
           exact ⟨by rw [hRt.out, hst2H.out]; rfl, by rw [hw.out]; exact below_drewN (below_drewN hBn.out.hb _) _⟩
          | false =>
           rw [he] at hst2H
           go_wp2
           go_quiet (fail)
           go_wp2
           go_roundw
           case rel => exact ⟨j + 1, _, by omega, by go_num, (show _ = A by rw [hst2H.out]; rfl), (by rw [hw.out]; exact drewN_all _ _ _)⟩
           case measure => simp [intOf]; omega
         ·have hA0 : A = false := by rw [← hz.out]; exact any_done _ xs m j hjm
          subst hA0
          go_wp2
          go_roundw
          case rel => exact ⟨m + 1, by omega, by go_num, (show _ = R by rw [hRt.out, hFRH.out]; rfl), (by rw [hw.out]; exact hBn.out.drew _)⟩
          case measure => simp [intOf]; omega
       ·cases hb3 : (x.flags == 3) <;> rw [hb3] at hok
        ·have hbn : (x.flags != 3) = true := by simp only [bne, hb3]; rfl
         have hRf : R = false := by rw [hstepH.out, ← hok]; rfl
         subst hRf
         clear hok
         go_wp2_with (first | (go_at_call 90; refine (nH.out _).mono ?_; rintro e w2 ⟨rfl, rfl⟩) | (go_at_call 61; refine (tH.out _).mono ?_; rintro e w2 ⟨rfl, rfl⟩) | (go_at_call 104; refine (gH.out _).mono ?_; rintro e w2 ⟨rfl, rfl⟩) | (go_at_call 96; refine (fH.out _ _ _).mono ?_; rintro e w2 ⟨rfl, rfl⟩))
         go_ret
         exact ⟨rfl, hBn.out.hb⟩
        ·have hbn : (x.flags != 3) = false := by simp only [bne, hb3]; rfl
         have hRt : Hid (R = (!A && FR)) := by show R = _; rw [hstepH.out, ← hok]; rfl
         clear hok hstepH
         go_wp2_with (first | (go_at_call 90; refine (nH.out _).mono ?_; rintro e w2 ⟨rfl, rfl⟩) | (go_at_call 61; refine (tH.out _).mono ?_; rintro e w2 ⟨rfl, rfl⟩) | (go_at_call 104; refine (gH.out _).mono ?_; rintro e w2 ⟨rfl, rfl⟩) | (go_at_call 96; refine (fH.out _ _ _).mono ?_; rintro e w2 ⟨rfl, rfl⟩))
         go_loopw [5] (fun i wr => ∃ j d : Nat, j ≤ m ∧ i = .int .i64 j ∧ Hid ((((xs.take m).drop j).any fun y => decide (fieldKey y = fieldKey x)) = A) ∧ Hid (wr = (wo.alloc (.cells #[.string x.name, .string x.ty, .int .i64 x.flags] 36)).drewN d)) (fun i _ => m - (intOf i).toNat)
         case atStart => exact ⟨0, 0, Nat.zero_le _, rfl, hAH.out, rfl⟩
         case round =>
          obtain ⟨j, d, hj, rfl, hz, hw⟩ := hrel
          have q5 : wr.cell? ⟨w.heap.size, 5, none⟩ = some (.slice (some ⟨b, off, none⟩) n3 c3) := by rw [hw.out]; exact z5
          have q0 : wr.cell? ⟨wo.heap.size, 0, none⟩ = some (.string x.name) := by rw [hw.out]; exact cell_lastC _ _ _ _ 0 rfl
          clear z3 z5 y3 y5
          by_cases hjm : j < m
          ·have hjn : (j : Int) < (n3 : Int) := by omega
           have hjm' : (j : Int) < (m : Int) := by omega
           have hcj : wr.cell? ⟨b, off + j * 3, none⟩ = some (.string (xs[j]'(by omega)).name) := by
            rw [hw.out]
            exact ((below_1 wo _).cell (p := ⟨b, off + j * 3, none⟩) hbl.out).trans (cjH.out j hjm)
           have hst2 := any_step (fun y : FieldL => decide (fieldKey y = fieldKey x)) xs m j hjm (by omega)
           rw [hz.out] at hst2
           have hkk : decide (fieldKey (xs[j]'(by omega)) = fieldKey x) = ((xs[j]'(by omega)).name.toList == x.name.toList) := (str_eq _ _).symm
           rw [hkk] at hst2
           obtain ⟨s, hs⟩ : ∃ s, s = (xs[j]'(by omega)).name := ⟨_, rfl⟩
           rw [← hs] at hcj hst2
           have hst2H : Hid (A = ((s.toList == x.name.toList) || (((xs.take m).drop (j + 1)).any fun y => decide (fieldKey y = fieldKey x)))) := hst2
           clear hst2 hkk hs hz
           cases he : (s.toList == x.name.toList) with
           | true =>
            rw [he] at hst2H
            go_wp2
            go_quiet (fail)
            go_wp2
            go_ret
            exact ⟨by rw [hRt.out, hst2H.out]; rfl, by rw [hw.out]; exact below_drewN (below_drewN hBn.out.hb _) _⟩
           | false =>
            rw [he] at hst2H
            go_wp2
            go_quiet (fail)
            go_wp2
            go_roundw
            case rel => exact ⟨j + 1, _, by omega, by go_num, (show _ = A by rw [hst2H.out]; rfl), (by rw [hw.out]; exact drewN_all _ _ _)⟩
            case measure => simp [intOf]; omega
          ·have hA0 : A = false := by rw [← hz.out]; exact any_done _ xs m j hjm
           subst hA0
           go_wp2
           go_roundw
           case rel => exact ⟨m + 1, by omega, by go_num, (show _ = R by rw [hRt.out, hFRH.out]; rfl), (by rw [hw.out]; exact hBn.out.drew _)⟩
           case measure => simp [intOf]; omega
      ·skip
       cases h8 : hasB f 128 <;> rw [h8] at hok
       ·have hb3 : True := trivial
        have hRt : Hid (R = (!A && FR)) := by show R = _; rw [hstepH.out, ← hok]; rfl
        clear hok hstepH
        go_wp2_with (first | (go_at_call 90; refine (nH.out _).mono ?_; rintro e w2 ⟨rfl, rfl⟩) | (go_at_call 61; refine (tH.out _).mono ?_; rintro e w2 ⟨rfl, rfl⟩) | (go_at_call 104; refine (gH.out _).mono ?_; rintro e w2 ⟨rfl, rfl⟩) | (go_at_call 96; refine (fH.out _ _ _).mono ?_; rintro e w2 ⟨rfl, rfl⟩))
        go_loopw [5] (fun i wr => ∃ j d : Nat, j ≤ m ∧ i = .int .i64 j ∧ Hid ((((xs.take m).drop j).any fun y => decide (fieldKey y = fieldKey x)) = A) ∧ Hid (wr = (wo.alloc (.cells #[.string x.name, .string x.ty, .int .i64 x.flags] 36)).drewN d)) (fun i _ => m - (intOf i).toNat)
        case atStart => exact ⟨0, 0, Nat.zero_le _, rfl, hAH.out, rfl⟩
        case round =>
         obtain ⟨j, d, hj, rfl, hz, hw⟩ := hrel
         have q5 : wr.cell? ⟨w.heap.size, 5, none⟩ = some (.slice (some ⟨b, off, none⟩) n3 c3) := by rw [hw.out]; exact z5
         have q0 : wr.cell? ⟨wo.heap.size, 0, none⟩ = some (.string x.name) := by rw [hw.out]; exact cell_lastC _ _ _ _ 0 rfl
         clear z3 z5 y3 y5
         by_cases hjm : j < m
         ·have hjn : (j : Int) < (n3 : Int) := by omega
          have hjm' : (j : Int) < (m : Int) := by omega
          have hcj : wr.cell? ⟨b, off + j * 3, none⟩ = some (.string (xs[j]'(by omega)).name) := by
           rw [hw.out]
           exact ((below_1 wo _).cell (p := ⟨b, off + j * 3, none⟩) hbl.out).trans (cjH.out j hjm)
          have hst2 := any_step (fun y : FieldL => decide (fieldKey y = fieldKey x)) xs m j hjm (by omega)
          rw [hz.out] at hst2
          have hkk : decide (fieldKey (xs[j]'(by omega)) = fieldKey x) = ((xs[j]'(by omega)).name.toList == x.name.toList) := (str_eq _ _).symm
          rw [hkk] at hst2
          obtain ⟨s, hs⟩ : ∃ s, s = (xs[j]'(by omega)).name := ⟨_, rfl⟩
          rw [← hs] at hcj hst2
          have hst2H : Hid (A = ((s.toList == x.name.toList) || (((xs.take m).drop (j + 1)).any fun y => decide (fieldKey y = fieldKey x)))) := hst2
          clear hst2 hkk hs hz
          cases he : (s.toList == x.name.toList) with
          | true =>
           rw [he] at hst2H
           go_wp2
           go_quiet (fail)
           go_wp2
           go_ret
           exact ⟨by rw [hRt.out, hst2H.out]; rfl, by rw [hw.out]; exact below_drewN (below_drewN hBn.out.hb _) _⟩
          | false =>
           rw [he] at hst2H
           go_wp2
           go_quiet (fail)
           go_wp2
           go_roundw
           case rel => exact ⟨j + 1, _, by omega, by go_num, (show _ = A by rw [hst2H.out]; rfl), (by rw [hw.out]; exact drewN_all _ _ _)⟩
           case measure => simp [intOf]; omega
         ·have hA0 : A = false := by rw [← hz.out]; exact any_done _ xs m j hjm
          subst hA0
          go_wp2
          go_roundw
          case rel => exact ⟨m + 1, by omega, by go_num, (show _ = R by rw [hRt.out, hFRH.out]; rfl), (by rw [hw.out]; exact hBn.out.drew _)⟩
          case measure => simp [intOf]; omega
       ·cases hb3 : (x.flags == 3) <;> rw [hb3] at hok
        ·have hbn : (x.flags != 3) = true := by simp only [bne, hb3]; rfl
         have hRf : R = false := by rw [hstepH.out, ← hok]; rfl
         subst hRf
         clear hok
         go_wp2_with (first | (go_at_call 90; refine (nH.out _).mono ?_; rintro e w2 ⟨rfl, rfl⟩) | (go_at_call 61; refine (tH.out _).mono ?_; rintro e w2 ⟨rfl, rfl⟩) | (go_at_call 104; refine (gH.out _).mono ?_; rintro e w2 ⟨rfl, rfl⟩) | (go_at_call 96; refine (fH.out _ _ _).mono ?_; rintro e w2 ⟨rfl, rfl⟩))
         go_ret
         exact ⟨rfl, hBn.out.hb⟩
        ·have hbn : (x.flags != 3) = false := by simp only [bne, hb3]; rfl
         have hRt : Hid (R = (!A && FR)) := by show R = _; rw [hstepH.out, ← hok]; rfl
         clear hok hstepH
         go_wp2_with (first | (go_at_call 90; refine (nH.out _).mono ?_; rintro e w2 ⟨rfl, rfl⟩) | (go_at_call 61; refine (tH.out _).mono ?_; rintro e w2 ⟨rfl, rfl⟩) | (go_at_call 104; refine (gH.out _).mono ?_; rintro e w2 ⟨rfl, rfl⟩) | (go_at_call 96; refine (fH.out _ _ _).mono ?_; rintro e w2 ⟨rfl, rfl⟩))
         go_loopw [5] (fun i wr => ∃ j d : Nat, j ≤ m ∧ i = .int .i64 j ∧ Hid ((((xs.take m).drop j).any fun y => decide (fieldKey y = fieldKey x)) = A) ∧ Hid (wr = (wo.alloc (.cells #[.string x.name, .string x.ty, .int .i64 x.flags] 36)).drewN d)) (fun i _ => m - (intOf i).toNat)
         case atStart => exact ⟨0, 0, Nat.zero_le _, rfl, hAH.out, rfl⟩
         case round =>
          obtain ⟨j, d, hj, rfl, hz, hw⟩ := hrel
          have q5 : wr.cell? ⟨w.heap.size, 5, none⟩ = some (.slice (some ⟨b, off, none⟩) n3 c3) := by rw [hw.out]; exact z5
          have q0 : wr.cell? ⟨wo.heap.size, 0, none⟩ = some (.string x.name) := by rw [hw.out]; exact cell_lastC _ _ _ _ 0 rfl
          clear z3 z5 y3 y5
          by_cases hjm : j < m
          ·have hjn : (j : Int) < (n3 : Int) := by omega
           have hjm' : (j : Int) < (m : Int) := by omega
           have hcj : wr.cell? ⟨b, off + j * 3, none⟩ = some (.string (xs[j]'(by omega)).name) := by
            rw [hw.out]
            exact ((below_1 wo _).cell (p := ⟨b, off + j * 3, none⟩) hbl.out).trans (cjH.out j hjm)
           have hst2 := any_step (fun y : FieldL => decide (fieldKey y = fieldKey x)) xs m j hjm (by omega)
           rw [hz.out] at hst2
           have hkk : decide (fieldKey (xs[j]'(by omega)) = fieldKey x) = ((xs[j]'(by omega)).name.toList == x.name.toList) := (str_eq _ _).symm
           rw [hkk] at hst2
           obtain ⟨s, hs⟩ : ∃ s, s = (xs[j]'(by omega)).name := ⟨_, rfl⟩
           rw [← hs] at hcj hst2
           have hst2H : Hid (A = ((s.toList == x.name.toList) || (((xs.take m).drop (j + 1)).any fun y => decide (fieldKey y = fieldKey x)))) := hst2
           clear hst2 hkk hs hz
           cases he : (s.toList == x.name.toList) with
           | true =>
            rw [he] at hst2H
            go_wp2
            go_quiet (fail)
            go_wp2
            go_ret
            exact ⟨by rw [hRt.out, hst2H.out]; rfl, by rw [hw.out]; exact below_drewN (below_drewN hBn.out.hb _) _⟩
           | false =>
            rw [he] at hst2H
            go_wp2
            go_quiet (fail)
            go_wp2
            go_roundw
            case rel => exact ⟨j + 1, _, by omega, by go_num, (show _ = A by rw [hst2H.out]; rfl), (by rw [hw.out]; exact drewN_all _ _ _)⟩
            case measure => simp [intOf]; omega
          ·have hA0 : A = false := by rw [← hz.out]; exact any_done _ xs m j hjm
           subst hA0
           go_wp2
           go_roundw
           case rel => exact ⟨m + 1, by omega, by go_num, (show _ = R by rw [hRt.out, hFRH.out]; rfl), (by rw [hw.out]; exact hBn.out.drew _)⟩
           case measure => simp [intOf]; omega
      ·skip
       have hRf : R = false := by rw [hstepH.out, ← hok]; rfl
       subst hRf
       clear hok
       go_wp2_with (first | (go_at_call 90; refine (nH.out _).mono ?_; rintro e w2 ⟨rfl, rfl⟩) | (go_at_call 61; refine (tH.out _).mono ?_; rintro e w2 ⟨rfl, rfl⟩) | (go_at_call 104; refine (gH.out _).mono ?_; rintro e w2 ⟨rfl, rfl⟩) | (go_at_call 96; refine (fH.out _ _ _).mono ?_; rintro e w2 ⟨rfl, rfl⟩))
       go_ret
       exact ⟨rfl, hBn.out.hb⟩
  ·have hend := hz.out
   rw [List.drop_eq_nil_of_le (by rw [hxH.out]; omega)] at hend
   have hR : R = true := hend.symm
   subst hR
   clear hend
   go_wp2
   go_ret
   exact ⟨rfl, hB.out.hb⟩
end Go.Proofs.YtjjccimeikkogaaGreatDoor
