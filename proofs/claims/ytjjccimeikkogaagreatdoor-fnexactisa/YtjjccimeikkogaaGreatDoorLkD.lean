import Derived.Test.YtjjccimeikkogaaGreatDoorLkC
import Derived.Deep.RegionWith
set_option maxRecDepth 1000000
set_option maxHeartbeats 16000000
namespace Go.Proofs.YtjjccimeikkogaaGreatDoor
set_option linter.unusedVariables false
open Go.ChangeShapes Go.WideShapes Go.ChangeAt Go.RowKit Go.Sort Go.Shelf
theorem isaS_eq (ab : List UInt8 → List UInt8 → Bool) {t u : List UInt8} (h : t = u) : isaS ab t u = typeL t := by
 cases t with
 | nil => unfold isaS; rw [if_pos h]
 | cons b r => unfold isaS; rw [if_pos h]
theorem isaS_null (ab : List UInt8 → List UInt8 → Bool) {t u : List UInt8} (h : t ≠ u) (h0 : t = [48]) : isaS ab t u = refL u := by
 subst h0
 unfold isaS
 rw [if_neg h, if_pos rfl]
theorem refL_cons {t : List UInt8} (h : refL t = true) : ∃ b r, t = b :: r := by
 rcases kind_form (of_decide_eq_true h) with ⟨r, rfl⟩ | ⟨r, rfl⟩ <;> exact ⟨_, _, rfl⟩
theorem isaS_go (ab : List UInt8 → List UInt8 → Bool) {t u : List UInt8} (h : t ≠ u) (h0 : t ≠ [48]) (h1 : refL t = true) (h2 : refL u = true) :
  isaS ab t u = if u = objT then true else if atR t && atR u then ab t.tail u.tail else arrL t && (arrL u && (refL t.tail && (refL u.tail && isaS ab t.tail u.tail))) := by
 obtain ⟨b, r, rfl⟩ := refL_cons h1
 rw [isaS, if_neg h, if_neg h0, if_neg (by simp [h1, h2])]
 rfl
theorem ref_pos {s : ByteArray} (h : refL s.data.toList = true) : 0 < s.size := by
 obtain ⟨b, r, e⟩ := refL_cons h
 have := toList_size s
 rw [e] at this
 simp at this
 omega
theorem ref6_calls (s : ByteArray) (w : World) (hs : s.size ≤ 9223372036854775807) : Calls Tryz.prog 62 #[.string s] w fun e w' => e = .returned (.bool (refL s.data.toList)) ∧ w' = w := by
 have hk := specKind_calls s w hs
 have hkH : Hid (Calls Tryz.prog 91 #[.string s] w fun e w' => e = .returned (.int .i64 (kindL s.data.toList)) ∧ w' = w) := hk
 unfold refL
 generalize kindL s.data.toList = k at *
 clear hk
 go_enter Tryz.func62, Tryz.ntmps62
 go_wp2_with (refine hkH.out.mono ?_; rintro e w' ⟨rfl, rfl⟩)
 go_ret
 have e : (k == 4) = decide (k = 4) := by rw [Bool.eq_iff_iff]; simp
 rw [← e]
 exact ⟨rfl, rfl⟩
theorem arr6_calls (s : ByteArray) (w : World) (hs : s.size ≤ 9223372036854775807) : Calls Tryz.prog 63 #[.string s] w fun e w' => e = .returned (.bool (arrL s.data.toList)) ∧ w' = w := by
 have hk := ref6_calls s w hs
 cases hr : refL s.data.toList with
 | false =>
  rw [hr] at hk
  rw [arr_ref hr]
  have hkH : Hid (Calls Tryz.prog 62 #[.string s] w fun e w' => e = .returned (.bool false) ∧ w' = w) := hk
  clear hk
  go_enter Tryz.func63, Tryz.ntmps63
  go_wp2_with (refine hkH.out.mono ?_; rintro e w' ⟨rfl, rfl⟩)
  go_ret
  exact ⟨rfl, rfl⟩
 | true =>
  rw [hr] at hk
  have hp := ref_pos hr
  have ha : Hid (arrL s.data.toList = decide ((s[0]'hp).toNat = 91)) := by
   show _ = _
   unfold arrL
   rw [hr]
   obtain ⟨b, r, e⟩ := refL_cons hr
   have : s[0]'hp = b := by
    rw [get_toList s 0 hp]
    simp [e]
   rw [this, e]
   simp
   constructor
   ·rintro rfl; rfl
   ·intro h; exact UInt8.toNat_inj.1 h
  have hkH : Hid (Calls Tryz.prog 62 #[.string s] w fun e w' => e = .returned (.bool true) ∧ w' = w) := hk
  rw [ha.out]
  clear hk ha hr
  go_enter Tryz.func63, Tryz.ntmps63
  go_wp2_with (refine hkH.out.mono ?_; rintro e w' ⟨rfl, rfl⟩)
  go_ret
  have e : ((((s[0]'hp).toNat : Int)) == 91) = decide ((s[0]'hp).toNat = 91) := by rw [Bool.eq_iff_iff]; simp; omega
  rw [← e]
  exact ⟨rfl, rfl⟩
theorem ext_tail (s : ByteArray) : (s.extract 1 s.size).data.toList = s.data.toList.tail := by
 have e := toList_size s
 have : (s.extract 1 s.size).data = s.data.extract 1 s.size := by simp
 rw [this, Array.toList_extract, List.extract_eq_take_drop]
 cases h : s.data.toList with
 | nil => simp
 | cons b r =>
  rw [h] at e
  simp only [List.length_cons] at e
  simp only [List.drop_succ_cons, List.drop_zero, List.tail_cons]
  exact List.take_of_length_le (by omega)
structure AbvC (w : World) (a : Option Addr) (n c : Nat) (all : List ClassL) : Prop where
 abv : ∀ (s : ByteArray) (W : World), Below w.heap.size w W → Calls Tryz.prog 24 #[.slice a n c, .string s] W fun e w' => ∃ va vc, e = .returned (.slice va (abvL all s.toList).length vc) ∧ StrO W.heap.size w' (.slice va (abvL all s.toList).length vc) ((abvL all s.toList).map (nameK all)) ∧ Below W.heap.size W w'
 row : ∀ (x s : ByteArray) (W : World) (B : Nat) (va : Option Addr) (m vc : Nat), StrO B W (.slice va m vc) ((abvL all x.toList).map (nameK all)) → Calls Tryz.prog 44 #[.slice va m vc, .string s] W fun e w' => e = .returned (.bool (abvB all x.toList s.toList)) ∧ w' = W
theorem abvC_of {w : World} {a : Option Addr} {n c : Nat} {all : List ClassL} {B : Nat} (hB : B ≤ w.heap.size) (ht : AllAt B w (.slice a n c) all) (hn : n ≤ 1000) (hN : Named all) (hif : ∀ x ∈ all, x.ifs.length ≤ 1048576) : AbvC w a n c all := by
 refine ⟨fun s W hW => ?_, fun x s W B' va m vc ho => ?_⟩
 ·refine (above6_calls a n c s all W B (Nat.le_trans hB hW.size) (ht.below' hB hW) hn hN hif).mono ?_
  rintro e w' ⟨⟨v, rfl, ho⟩, hb⟩
  obtain ⟨va, vc, rfl⟩ := own_shape ho
  simp only [List.length_map] at ho ⊢
  exact ⟨va, vc, rfl, ho, hb⟩
 ·obtain ⟨rfl, hc⟩ := ho.cells
  have hl := (abvL_row all x.toList).len
  have hx := ht.len
  refine (l2In_calls va _ vc s _ W rfl (by simp; omega) hc).mono ?_
  rintro e w' ⟨rfl, rfl⟩
  refine ⟨?_, rfl⟩
  rw [← in_abv hN x.toList s.toList]
  congr 3
  funext y
  exact str_beq _ _
structure Tells (f : List UInt8 → Bool) (x : ByteArray) (r : Bool) : Prop where
 eq : f x.data.toList = r
theorem isa6_step (a : Option Addr) (n c : Nat) (t u : ByteArray) (all : List ClassL) (w : World) (B : Nat) (hB : B ≤ w.heap.size) (ht : AllAt B w (.slice a n c) all) (hn : n ≤ 1000) (hN : Named all) (hif : ∀ x ∈ all, x.ifs.length ≤ 1048576) (hts : t.size ≤ 1048576) (hus : u.size ≤ 1048576)
  (hrec : ∀ (t' u' : ByteArray) (W : World), 0 < t.size → t'.data.toList = t.data.toList.tail → u'.data.toList = u.data.toList.tail → Below w.heap.size w W → Calls Tryz.prog 34 #[.slice a n c, .string t', .string u'] W fun e w' => e = .returned (.bool (isaS (abvB all) t'.data.toList u'.data.toList)) ∧ Below W.heap.size W w') :
  Calls Tryz.prog 34 #[.slice a n c, .string t, .string u] w fun e w' => e = .returned (.bool (isaS (abvB all) t.data.toList u.data.toList)) ∧ Below w.heap.size w w' := by
 have hr1 := ref6_calls t w (by omega)
 have hr2 := ref6_calls u w (by omega)
 by_cases h : t.data.toList = u.data.toList
 ·have hb : (t.toList == u.toList) = true := by rw [ByteArray.toList_eq, ByteArray.toList_eq, h]; simp
  rw [isaS_eq _ h]
  have hT := specType_calls t w (by omega)
  have hTH : Hid (Calls Tryz.prog 61 #[.string t] w fun e w' => e = .returned (.bool (typeL t.data.toList)) ∧ w' = w) := hT
  generalize typeL t.data.toList = tb at *
  clear hT hr1 hr2 ht hrec h
  go_enter Tryz.func34, Tryz.ntmps34
  go_wp2_with (refine hTH.out.mono ?_; rintro e w' ⟨rfl, rfl⟩)
  go_ret
  exact ⟨rfl, Below.refl _ _⟩
 have hb : (t.toList == u.toList) = false := by rw [ByteArray.toList_eq, ByteArray.toList_eq, beq_eq_false_iff_ne]; exact h
 by_cases h0 : t.data.toList = [48]
 ·have hb0 : (t.toList == [48]) = true := by rw [ByteArray.toList_eq, h0]; rfl
  rw [isaS_null _ h h0]
  have hTH : Hid (Calls Tryz.prog 62 #[.string u] w fun e w' => e = .returned (.bool (refL u.data.toList)) ∧ w' = w) := hr2
  generalize refL u.data.toList = tb at *
  clear hr1 hr2 ht hrec h h0
  go_enter Tryz.func34, Tryz.ntmps34
  go_wp2_with (refine hTH.out.mono ?_; rintro e w' ⟨rfl, rfl⟩)
  go_ret
  exact ⟨rfl, Below.refl _ _⟩
 have hb0 : (t.toList == [48]) = false := by rw [ByteArray.toList_eq, beq_eq_false_iff_ne]; exact h0
 have hr1H : Hid (Calls Tryz.prog 62 #[.string t] w fun e w' => e = .returned (.bool (refL t.data.toList)) ∧ w' = w) := hr1
 have hr2H : Hid (Calls Tryz.prog 62 #[.string u] w fun e w' => e = .returned (.bool (refL u.data.toList)) ∧ w' = w) := hr2
 clear hr1 hr2
 cases h1 : refL t.data.toList with
 | false =>
  rw [isaS_ref h h0 (.inl h1)]
  rw [h1] at hr1H
  clear hr2H ht hrec h h0 h1
  go_enter Tryz.func34, Tryz.ntmps34
  go_wp2_with (refine hr1H.out.mono ?_; rintro e w' ⟨rfl, rfl⟩)
  go_ret
  exact ⟨rfl, Below.refl _ _⟩
 | true =>
 rw [h1] at hr1H
 cases h2 : refL u.data.toList with
 | false =>
  rw [isaS_ref h h0 (.inr h2)]
  rw [h2] at hr2H
  clear ht hrec h h0 h1 h2
  go_enter Tryz.func34, Tryz.ntmps34
  go_wp2_with (first
   | (refine hr1H.out.mono ?_; clear hr1H; rintro e w' ⟨rfl, rfl⟩)
   | (refine hr2H.out.mono ?_; rintro e w' ⟨rfl, rfl⟩))
  go_ret
  exact ⟨rfl, Below.refl _ _⟩
 | true =>
 rw [h2] at hr2H
 rw [isaS_go _ h h0 h1 h2]
 have hpt := ref_pos h1
 have hpu := ref_pos h2
 by_cases ho : u.data.toList = objT
 ·have hbo : (u.toList == [64, 79, 98, 106, 101, 99, 116]) = true := by rw [ByteArray.toList_eq, ho]; rfl
  rw [if_pos ho]
  clear ht hrec h h0 h1 h2 ho
  go_enter Tryz.func34, Tryz.ntmps34
  go_wp2_with (first
   | (refine hr1H.out.mono ?_; clear hr1H; rintro e w' ⟨rfl, rfl⟩)
   | (refine hr2H.out.mono ?_; rintro e w' ⟨rfl, rfl⟩))
  go_ret
  exact ⟨rfl, Below.refl _ _⟩
 have hbo : (u.toList == [64, 79, 98, 106, 101, 99, 116]) = false := by rw [ByteArray.toList_eq, beq_eq_false_iff_ne]; exact ho
 rw [if_neg ho]
 obtain ⟨b1, r1, e1⟩ := refL_cons h1
 obtain ⟨b2, r2, e2⟩ := refL_cons h2
 have g1 : t[0]'hpt = b1 := by rw [get_toList t 0 hpt]; simp [e1]
 have g2 : u[0]'hpu = b2 := by rw [get_toList u 0 hpu]; simp [e2]
 have hst1 : Hid ((t.extract 1 t.size).toList = t.data.toList.tail ∧ (u.extract 1 u.size).toList = u.data.toList.tail) := by
  show _ ∧ _
  rw [ByteArray.toList_eq, ByteArray.toList_eq]
  exact ⟨ext_tail t, ext_tail u⟩
 have hC : Hid (AbvC w a n c all) := abvC_of hB ht hn hN hif
 by_cases hat : b1 = 64 ∧ b2 = 64
 ·obtain ⟨rfl, rfl⟩ := hat
  have c1 : ((((t[0]'hpt).toNat : Int)) == 64) = true := by rw [g1]; rfl
  have c2 : ((((u[0]'hpu).toNat : Int)) == 64) = true := by rw [g2]; rfl
  rw [if_pos (by rw [e1, e2]; rfl)]
  rw [← hst1.out.1, ← hst1.out.2]
  clear hrec h h0 h1 h2 ho g1 g2 ht e1 e2
  go_enter Tryz.func34, Tryz.ntmps34
  go_wp2_with (first
   | (refine hr1H.out.mono ?_; clear hr1H; rintro e w' ⟨rfl, rfl⟩)
   | (refine hr2H.out.mono ?_; clear hr2H; rintro e w' ⟨rfl, rfl⟩))
  go_region_with (first
   | (go_at_call 24; refine (hC.out.abv _ _ (Below.refl _ _).drew).mono ?_; rintro e w1 ⟨va, vc, rfl, ho1, hb1⟩)
   | (go_at_call 44; refine (hC.out.row (t.extract 1 t.size) _ _ _ va _ vc ho1).mono ?_; rintro e w2 ⟨rfl, rfl⟩))
  all_goals (go_wp2; go_ret; refine ⟨rfl, ?_⟩; repeat (first | exact below_on2 (Below.refl _ _).drew hb1 | refine Below.drew ?_))
 ·have hna : (atR t.data.toList && atR u.data.toList) = false := by
   rw [e1, e2]
   unfold atR
   simp only [List.head?_cons, Option.some.injEq, Bool.and_eq_false_iff, decide_eq_false_iff_not]
   by_cases q : b1 = 64
   ·exact .inr fun q2 => hat ⟨q, q2⟩
   ·exact .inl q
  rw [if_neg (by rw [hna]; simp)]
  have hI : Hid (∀ W, Below w.heap.size w W → Calls Tryz.prog 34 #[.slice a n c, .string (t.extract 1 t.size), .string (u.extract 1 u.size)] W fun e w' => e = .returned (.bool (isaS (abvB all) (t.extract 1 t.size).data.toList (u.extract 1 u.size).data.toList)) ∧ Below W.heap.size W w') := fun W hW => hrec _ _ W hpt (ext_tail t) (ext_tail u) hW
  have hx1 : (t.extract 1 t.size).size ≤ 1048576 := by have := toList_size (t.extract 1 t.size); rw [ext_tail] at this; have := toList_size t; simp at *; omega
  have hx2 : (u.extract 1 u.size).size ≤ 1048576 := by have := toList_size (u.extract 1 u.size); rw [ext_tail] at this; have := toList_size u; simp at *; omega
  have tA : Tells arrL t (arrL t.data.toList) := ⟨rfl⟩
  have tB : Tells arrL u (arrL u.data.toList) := ⟨rfl⟩
  have tC : Tells refL (t.extract 1 t.size) (refL t.data.toList.tail) := ⟨by rw [ext_tail]⟩
  have tD : Tells refL (u.extract 1 u.size) (refL u.data.toList.tail) := ⟨by rw [ext_tail]⟩
  rw [ext_tail, ext_tail] at hI
  have cne : Hid (((((t[0]'hpt).toNat : Int)) == 64) = decide (b1 = 64) ∧ ((((u[0]'hpu).toNat : Int)) == 64) = decide (b2 = 64)) := by
   rw [g1, g2]
   have key : ∀ b : UInt8, ((b.toNat : Int) == 64) = decide (b = 64) := fun b => by
    rw [Bool.eq_iff_iff]
    simp only [beq_iff_eq, decide_eq_true_eq]
    constructor
    ·intro h; exact UInt8.toNat_inj.1 (by have : b.toNat = 64 := by omega
                                          rw [this]; rfl)
    ·rintro rfl; rfl
   exact ⟨key _, key _⟩
  have hA1 : (b1 = 64 ∧ arrL t.data.toList = false) ∨ (b1 ≠ 64 ∧ arrL t.data.toList = true) := by
   by_cases q : b1 = 64
   ·exact .inl ⟨q, arr_at (by rw [e1, q]; rfl)⟩
   ·refine .inr ⟨q, ?_⟩
    obtain ⟨r, hr⟩ := atR_ref h1 (by rw [e1]; simp [atR, q])
    unfold arrL
    rw [h1, hr]; rfl
  generalize arrL t.data.toList = A1 at *
  generalize arrL u.data.toList = A2 at *
  generalize refL t.data.toList.tail = A3 at *
  generalize refL u.data.toList.tail = A4 at *
  generalize isaS (abvB all) t.data.toList.tail u.data.toList.tail = A5 at *
  clear hrec h h0 h1 h2 ho g1 g2 ht e1 e2 hna hst1
  have q12 : ∀ (x : ByteArray) (r : Bool), Tells arrL x r → x.size ≤ 1048576 → ∀ d os, Calls Tryz.prog 63 #[.string x] (Sort.grow (redrawn w d) os) fun e w'' => e = .returned (.bool r) ∧ ∃ p : Regrown, w'' = Sort.grow (redrawn w p.d) p.os := fun x r h hs d os => by
   rw [← h.eq]
   exact Calls.regrown_of (same_below (arr6_calls x _ (by omega)))
  have q34 : ∀ (x : ByteArray) (r : Bool), Tells refL x r → x.size ≤ 1048576 → ∀ d os, Calls Tryz.prog 62 #[.string x] (Sort.grow (redrawn w d) os) fun e w'' => e = .returned (.bool r) ∧ ∃ p : Regrown, w'' = Sort.grow (redrawn w p.d) p.os := fun x r h hs d os => by
   rw [← h.eq]
   exact Calls.regrown_of (same_below (ref6_calls x _ (by omega)))
  have q5 : ∀ d os, Calls Tryz.prog 34 #[.slice a n c, .string (t.extract 1 t.size), .string (u.extract 1 u.size)] (Sort.grow (redrawn w d) os) fun e w'' => e = .returned (.bool A5) ∧ ∃ p : Regrown, w'' = Sort.grow (redrawn w p.d) p.os := fun d os => Calls.regrown_of (hI.out _ (below_regrown w d os))
  obtain ⟨x1, hx1'⟩ : ∃ x, decide (b1 = 64) = x := ⟨_, rfl⟩
  obtain ⟨x2, hx2'⟩ : ∃ x, decide (b2 = 64) = x := ⟨_, rfl⟩
  have hnx : x1 = false ∨ x2 = false := by
   rw [← hx1', ← hx2', decide_eq_false_iff_not, decide_eq_false_iff_not]
   by_cases q : b1 = 64
   ·exact .inr fun q2 => hat ⟨q, q2⟩
   ·exact .inl q
  rw [hx1', hx2'] at cne
  have f1 := cne.out.1
  have f2 := cne.out.2
  clear cne hI hC
  have hp1 : (1 : Int) ≤ (t.size : Int) := by omega
  have hp2 : (1 : Int) ≤ (u.size : Int) := by omega
  have hxc : (x1 = false ∧ A1 = true) ∨ (x1 = true ∧ x2 = false ∧ A1 = false) := by
   rcases hA1 with ⟨q1, q2⟩ | ⟨q1, q2⟩
   ·rw [decide_eq_true q1] at hx1'
    subst hx1'
    exact .inr ⟨rfl, hnx.resolve_left (by simp), q2⟩
   ·rw [decide_eq_false q1] at hx1'
    exact .inl ⟨hx1'.symm, q2⟩
  clear hnx hx1' hx2' hat hA1
  rcases hxc with ⟨rfl, rfl⟩ | ⟨rfl, rfl, rfl⟩
  ·have hcs : A2 = false ∨ (A2 = true ∧ A3 = false) ∨ (A2 = true ∧ A3 = true ∧ A4 = false) ∨ (A2 = true ∧ A3 = true ∧ A4 = true) := by
    cases A2 <;> cases A3 <;> cases A4 <;> simp
   go_enter Tryz.func34, Tryz.ntmps34
   go_wp2_with (first
    | (refine hr1H.out.mono ?_; clear hr1H; rintro e w' ⟨rfl, rfl⟩)
    | (refine hr2H.out.mono ?_; clear hr2H; rintro e w' ⟨rfl, rfl⟩))
   rcases hcs with rfl | ⟨rfl, rfl⟩ | ⟨rfl, rfl, rfl⟩ | ⟨rfl, rfl, rfl⟩
   all_goals
    refine wp_region_quiet_below (by kernel_rfl) (by kernel_rfl) ?_
    repeat (quiet_step (first | (go_at_call 63; exact q12 _ _ (by assumption) (by assumption) _ _) | (go_at_call 62; exact q34 _ _ (by assumption) (by assumption) _ _) | (go_at_call 34; exact q5 _ _)))
    refine wpQuiet_nil ?_
    intro _ hw'
    obtain ⟨⟨dq, osq⟩, hw''⟩ := hw'
    subst hw''
    go_wp2
    go_ret
    exact ⟨rfl, below_regrown _ dq osq⟩
  ·go_enter Tryz.func34, Tryz.ntmps34
   go_wp2_with (first
    | (refine hr1H.out.mono ?_; clear hr1H; rintro e w' ⟨rfl, rfl⟩)
    | (refine hr2H.out.mono ?_; clear hr2H; rintro e w' ⟨rfl, rfl⟩))
   refine wp_region_quiet_below (by kernel_rfl) (by kernel_rfl) ?_
   repeat (quiet_step (first | (go_at_call 63; exact q12 _ _ (by assumption) (by assumption) _ _) | (go_at_call 62; exact q34 _ _ (by assumption) (by assumption) _ _) | (go_at_call 34; exact q5 _ _)))
   refine wpQuiet_nil ?_
   intro _ hw'
   obtain ⟨⟨dq, osq⟩, hw''⟩ := hw'
   subst hw''
   go_wp2
   go_ret
   exact ⟨rfl, below_regrown _ dq osq⟩
end Go.Proofs.YtjjccimeikkogaaGreatDoor
