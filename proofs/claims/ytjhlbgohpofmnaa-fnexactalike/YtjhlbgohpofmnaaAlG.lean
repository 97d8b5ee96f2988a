/- spec.Alike, walked. -/
import Derived.Test.YtjhlbgohpofmnaaAlR
namespace Go.Proofs.Ytjhlbgohpofmnaa
set_option linter.unusedVariables false
open Go.ChangeShapes Go.WideShapes Go.ChangeAt Go.RowKit

theorem madeInts (n : Nat) : (madeCells (Value.int .i64 0).cells (n * 1)).toList = (List.replicate n (0 : Int)).map (Value.int .i64) := by
  rw [show (Value.int .i64 0).cells = #[.int .i64 0] from rfl, toList_madeCells_one, Nat.mul_one, List.map_replicate]
theorem RW3.start {w w1 w2 : World} {A B : Nat} {x y : Int} (h1 : w1.ownsRow w.heap.size 2 1 (.slice (some ⟨w.heap.size, 0, none⟩) (A + 1) (A + 1)) (A + 1) (madeCells (Value.int .i64 0).cells ((A + 1) * 1)).toList) (g1 : w.grownBy w1 none) (h2 : w2.ownsRow w.heap.size 2 1 (.slice (some ⟨w1.heap.size, 0, none⟩) (B + 1) (B + 1)) (B + 1) (madeCells (Value.int .i64 0).cells ((B + 1) * 1)).toList) (g2 : w1.grownBy w2 none) : RW3 w (w2.alloc (.cells #[.int .i64 x, .int .i64 y] 2)) w.heap.size w1.heap.size (List.replicate (A + 1) 0) (List.replicate (B + 1) 0) (.slice (some ⟨w2.heap.size, 0, none⟩) 2 2) [x, y] := by
  rw [madeInts] at h1 h2
  have b1 : Below w.heap.size w w1 := (Below.refl _ _).grown g1 (Nat.le_refl _) (fun j hj => by cases hj)
  have b2 : Below w1.heap.size w1 w2 := (Below.refl _ _).grown g2 (Nat.le_refl _) (fun j hj => by cases hj)
  have l1 : w.heap.size < w1.heap.size := (own_lt h1 rfl).2
  have l2 : w1.heap.size < w2.heap.size := (own_lt h2 rfl).2
  have b3 := below_on2 b1 b2
  refine ⟨b3.alloc b3.size _, own_alloc (own_below (B := 0) (by simpa using h1) b2) _, own_alloc (by simpa using h2) _, World.ownsRow_lit w2 #[.int .i64 x, .int .i64 y] 2 b3.size (by unfold maxLen; omega) rfl, by omega, fun e => ?_, fun e => ?_⟩
  · have : w2.heap.size = w.heap.size := by simpa [Value.ownBlock] using e
    omega
  · have : w2.heap.size = w1.heap.size := by simpa [Value.ownBlock] using e
    omega

theorem str_ne {s t : ByteArray} (h : s ≠ t) : (s.toList != t.toList) = true := by
  have : s.toList ≠ t.toList := fun e => h (by
    rw [ByteArray.toList_eq, ByteArray.toList_eq] at e
    cases s; cases t
    simpa using e)
  simpa using this
theorem str_ne' {s t : ByteArray} (h : s ≠ t) : ¬ s.toList = t.toList := fun e => h (by
    rw [ByteArray.toList_eq, ByteArray.toList_eq] at e
    cases s; cases t
    simpa using e)
theorem cell_two_new (w : World) (x y : Value) (t : TypeId) : ∀ j u, [x, y][j]? = some u → (w.alloc (.cells #[x, y] t)).cell? ((⟨w.heap.size, 0, none⟩ : Addr).add j) = some u := by
  intro j u hj
  have h := rangeAt_heap (heap_alloc_new w (.cells #[x, y] t)) j u hj
  rw [Addr.add_mid]; exact h
theorem kidsL_snoc (l : List (ValL × ValL)) (i : Nat) (h : i < l.length) : kidsL (l.take (i + 1)) = kidsL (l.take i) ++ (if l[i].1.kind = 4 then [(l[i].1.n, l[i].2.n)] else []) := by
  unfold kidsL
  rw [List.take_succ_eq_append_getElem h, List.filter_append, List.map_append]
  congr 1
  by_cases e : l[i].1.kind = 4 <;> simp [e]
theorem all_snoc (l : List (ValL × ValL)) (f : ValL × ValL → Bool) (i : Nat) (h : i < l.length) (h1 : (l.take i).all f = true) (h2 : f l[i] = true) : (l.take (i + 1)).all f = true := by
  rw [List.take_succ_eq_append_getElem h, List.all_append, h1]; simp [h2]
theorem all_false (l : List (ValL × ValL)) (f : ValL × ValL → Bool) (i : Nat) (h : i < l.length) (h2 : f l[i] = false) : l.all f = false := by
  cases e : l.all f with
  | false => rfl
  | true =>
    have := List.all_eq_true.1 e l[i] (List.getElem_mem h)
    rw [h2] at this; cases this
theorem not_good {a b : List ObjL} {p q : Int} (h : ¬ (p = 0 ∧ q = 0)) (h' : p < 1 ∨ (a.length : Int) < p ∨ q < 1 ∨ (b.length : Int) < q) : ¬ goodP a b p q := by
  rintro (e | ⟨m, n, o, u, e1, e2, e3, e4, _⟩)
  · exact h e
  · have l1 := (List.getElem?_eq_some_iff.1 e3).1
    have l2 := (List.getElem?_eq_some_iff.1 e4).1
    omega
theorem not_good2 {a b : List ObjL} {m n : Nat} {o u : ObjL} (ho : a[m]? = some o) (hu : b[n]? = some u) (hc : cmpO o u = false) : ¬ goodP a b ((m : Int) + 1) ((n : Int) + 1) := by
  rintro (e | ⟨m', n', o', u', e1, e2, e3, e4, e5⟩)
  · omega
  · have em : m = m' := by omega
    have en : n = n' := by omega
    subst em en
    rw [ho] at e3
    rw [hu] at e4
    injection e3 with e3
    injection e4 with e4
    subst e3 e4
    rw [hc] at e5
    cases e5

set_option maxRecDepth 1000000 in
set_option maxHeartbeats 8000000 in
theorem alikeS_calls (a b : List ObjL) (x y : Int) (va vb : Value) (w : World) (lo hi lo2 hi2 : Nat) (hh : hi ≤ w.heap.size) (hh2 : hi2 ≤ w.heap.size) (ha : ListAt ObjR 3 true lo hi w va a) (hb : ListAt ObjR 3 true lo2 hi2 w vb b) (hna : a.length ≤ 1048576) (hnb : b.length ≤ 1048576) (hsa : (a.map (fun x => x.vals.length)).sum ≤ 1048576) (hsb : (b.map (fun x => x.vals.length)).sum ≤ 1048576) :
    Calls Try.prog 5 #[va, .int .i64 x, vb, .int .i64 y] w fun e w' => e = .returned (.bool (alikeB a b x y)) ∧ Below w.heap.size w w' := by
  obtain ⟨i2, hi2', hz2, hs2, hb2⟩ := elemI
  obtain ⟨a0, c0, rfl⟩ := ha.form
  obtain ⟨a1, c1, rfl⟩ := hb.form
  have haH : Hid (ListAt ObjR 3 true lo hi w (.slice a0 a.length c0) a) := ha
  have hbH : Hid (ListAt ObjR 3 true lo2 hi2 w (.slice a1 b.length c1) b) := hb
  have hhH : Hid (hi ≤ w.heap.size ∧ hi2 ≤ w.heap.size) := ⟨hh, hh2⟩
  have hT : Hid (AlikeP a b x y → alikeB a b x y = true) := fun h => by unfold alikeB; simpa using h
  have hF : Hid (¬ AlikeP a b x y → alikeB a b x y = false) := fun h => by unfold alikeB; simpa using h
  have hsaH : Hid ((a.map (fun x => x.vals.length)).sum ≤ 1048576) := hsa
  have hsbH : Hid ((b.map (fun x => x.vals.length)).sum ≤ 1048576) := hsb
  generalize alikeB a b x y = tb at hT hF ⊢
  clear ha hb hh hh2 hsa hsb
  obtain ⟨A, hA⟩ : ∃ A, A = a.length := ⟨_, rfl⟩
  obtain ⟨B, hB⟩ : ∃ B, B = b.length := ⟨_, rfl⟩
  have hAH : Hid (A = a.length) := hA
  have hBH : Hid (B = b.length) := hB
  rw [← hA] at hna haH ⊢
  rw [← hB] at hnb hbH ⊢
  clear hA hB
  have hA0 : (0 : Int) ≤ A := by omega
  have hB0 : (0 : Int) ≤ B := by omega
  have hA1 : (A : Int) ≤ 1048576 := by omega
  have hB1 : (B : Int) ≤ 1048576 := by omega
  have hrng : Hid (¬ (0 ≤ x ∧ x ≤ A ∧ 0 ≤ y ∧ y ≤ B) → tb = false) := fun h => hF.out (fun hp => by
    rcases hp.1 x y .base with ⟨e1, e2⟩ | ⟨m, n, o, u, e1, e2, e3, e4, _⟩
    · exact h (by omega)
    · have l1 := (List.getElem?_eq_some_iff.1 e3).1
      have l2 := (List.getElem?_eq_some_iff.1 e4).1
      have := hAH.out
      have := hBH.out
      exact h (by omega))
  by_cases hx0 : x < 0
  · have hf : Hid (tb = false) := hrng.out (by omega)
    clear hrng hT hF
    go_enter Try.func5, Try.ntmps5
    go_wp2
    go_ret
    exact ⟨by rw [hf.out]; rfl, Below.refl _ _⟩
  by_cases hx1 : (A : Int) < x
  · have hf : Hid (tb = false) := hrng.out (by omega)
    clear hrng hT hF
    go_enter Try.func5, Try.ntmps5
    go_wp2
    go_ret
    exact ⟨by rw [hf.out]; rfl, Below.refl _ _⟩
  by_cases hy0 : y < 0
  · have hf : Hid (tb = false) := hrng.out (by omega)
    clear hrng hT hF
    go_enter Try.func5, Try.ntmps5
    go_wp2
    go_ret
    exact ⟨by rw [hf.out]; rfl, Below.refl _ _⟩
  by_cases hy1 : (B : Int) < y
  · have hf : Hid (tb = false) := hrng.out (by omega)
    clear hrng hT hF
    go_enter Try.func5, Try.ntmps5
    go_wp2
    go_ret
    exact ⟨by rw [hf.out]; rfl, Below.refl _ _⟩
  clear hrng
  go_enter Try.func5, Try.ntmps5
  go_wp2_with (first
    | (refine wpList_make_full _ rfl (.tmp 39) (.tmp 39) 33 rfl w.heap.size 2 i2 (.int .i64 0) 1 Try.underlying33 hi2' hz2 hs2 .i64 .i64 ((A : Int) + 1) ((A : Int) + 1) (A + 1) rfl rfl (by omega) (by omega) (by rw [hb2]; omega) (by unfold maxLen; omega) (Nat.le_refl _) ?_; intro w1 hown1 hgrow1)
    | (refine wpList_make_full _ rfl (.tmp 43) (.tmp 43) 33 rfl w.heap.size 2 i2 (.int .i64 0) 1 Try.underlying33 hi2' hz2 hs2 .i64 .i64 ((B : Int) + 1) ((B : Int) + 1) (B + 1) rfl rfl (by omega) (by omega) (by rw [hb2]; omega) (by unfold maxLen; omega) hgrow1.size ?_; intro w2 hown2 hgrow2))
  have hR : Hid (RW3 w (w2.alloc (.cells #[.int .i64 x, .int .i64 y] 2)) w.heap.size w1.heap.size (List.replicate (A + 1) 0) (List.replicate (B + 1) 0) (.slice (some ⟨w2.heap.size, 0, none⟩) 2 2) (flatP [(x, y)])) := RW3.start hown1 hgrow1 hown2 hgrow2
  have hS : Hid (AlS a b x y (List.replicate (A + 1) 0) (List.replicate (B + 1) 0) [(x, y)]) := by
    show AlS _ _ _ _ _ _ _
    rw [hAH.out, hBH.out]; exact AlS.start a b x y
  have hK0 : Hid (wtZ (lenAt a) 0 (List.replicate (A + 1) 0) + 1 ≤ 4194304) := by
    have h1 := wtZ_start (lenAt a) (A + 1) 0
    have h2 := lenAt_sum a
    rw [← hAH.out] at h2
    have h3 := hsaH.out
    show _ ≤ _
    omega
  generalize w1.heap.size = gb at *
  clear hown1 hgrow1 hown2 hgrow2 hx0 hx1 hy0 hy1
  go_loopg [11] (wtZ (lenAt a) 0 (List.replicate (A + 1) 0) + 1) (fun k tv wr => ∃ (there back : List Int) (todo : List (Int × Int)), Hid (RW3 w wr w.heap.size gb there back tv (flatP todo)) ∧ Hid (AlS a b x y there back todo) ∧ Hid (k = wtZ (lenAt a) 0 there + todo.length) ∧ Hid (k ≤ 4194304))
  case atStart => exact ⟨_, _, _, hR, hS, rfl, hK0⟩
  case round =>
    clear hR hS hK0
    obtain ⟨there, back, todo, hR, hS, hk, hkb⟩ := hrel
    rcases nil_or_snoc todo with rfl | ⟨todo', ⟨p, q⟩, rfl⟩
    · obtain ⟨ta, tc, rfl⟩ := own_form hR.out.own3
      have hf : Hid (tb = true ∧ Below w.heap.size w wr) := ⟨hT.out hS.out.done, hR.out.hb⟩
      clear hT hF hS hR
      go_wp2
      go_ret
      exact ⟨by rw [hf.out.1]; rfl, hf.out.2⟩
    · have hfl : flatP (todo' ++ [(p, q)]) = flatP todo' ++ [p, q] := by rw [flatP_append]; rfl
      obtain ⟨g, tc, rfl⟩ := own_some hR.out.own3 (by rw [hfl]; simp)
      obtain ⟨n', hn'⟩ : ∃ n', n' = (flatP todo').length := ⟨_, rfl⟩
      have hll : (flatP (todo' ++ [(p, q)])).length = n' + 2 := by rw [hfl, hn']; simp
      have hR2 : Hid (RW3 w wr w.heap.size gb there back (.slice (some ⟨g, 0, none⟩) (n' + 2) tc) (flatP todo' ++ [p, q])) := by
        have := hR.out
        rw [hll, hfl] at this; exact this
      rw [hll]
      have hl2 : (flatP todo' ++ [p, q]).length = n' + 2 := by rw [hn']; simp
      have hown3 : wr.ownsRow w.heap.size 2 1 (.slice (some ⟨g, 0, none⟩) (n' + 2) tc) (n' + 2) ((flatP todo' ++ [p, q]).map (Value.int .i64)) := by
        have := hR2.out.own3
        rw [hl2] at this; exact this
      have hcp : wr.cell? ⟨g, n', none⟩ = some (.int .i64 p) := by
        have := (intAt hown3 hl2.symm n' (by omega)).1
        simpa [hn'] using this
      have hcq : wr.cell? ⟨g, n' + 1, none⟩ = some (.int .i64 q) := by
        have := (intAt hown3 hl2.symm (n' + 1) (by omega)).1
        simpa [hn', List.getElem_append] using this
      have hcap : n' + 2 ≤ tc := own_cap hown3
      have hP : Hid (RW3 w wr w.heap.size gb there back (.slice (some ⟨g, 0, none⟩) n' tc) (flatP todo')) := hR2.out.pop hn'
      have hk' : Hid (gk = wtZ (lenAt a) 0 there + (todo'.length + 1)) := by
        have := hk.out
        rw [List.length_append] at this; exact this
      have hnH : Hid (n' = (flatP todo').length) := hn'
      have hnb : n' ≤ 8388608 := by
        have := hk'.out
        have := hkb.out
        have := flatP_length todo'
        omega
      have hin : (p, q) ∈ todo' ++ [(p, q)] := by simp
      have hinH : Hid ((p, q) ∈ todo' ++ [(p, q)]) := hin
      have ltT : Hid (there.length = A + 1) := by show _ = _; rw [hS.out.lt, hAH.out]
      have ltB : Hid (back.length = B + 1) := by show _ = _; rw [hS.out.lb, hBH.out]
      clear hk hR hn' hll hl2 hown3 hfl hin
      have hn0 : (0 : Int) ≤ n' := by omega
      have hcap' : (n' : Int) ≤ tc := by omega
      have hcap2 : (n' : Int) + 2 ≤ tc := by omega
      have hnb' : (n' : Int) ≤ 8388608 := by omega
      by_cases hp0 : p < 0
      · have hf : Hid (tb = false ∧ Below w.heap.size w wr) := ⟨hF.out (hS.out.bad hinH.out (not_good (by omega) (.inl (by omega)))), hP.out.hb⟩
        clear hT hF hS hP hR2
        go_wp2
        go_ret
        exact ⟨by rw [hf.out.1]; rfl, hf.out.2⟩
      by_cases hp1 : (A : Int) < p
      · have hf : Hid (tb = false ∧ Below w.heap.size w wr) := ⟨hF.out (hS.out.bad hinH.out (not_good (by omega) (.inr (.inl (by rw [← hAH.out]; exact hp1))))), hP.out.hb⟩
        clear hT hF hS hP hR2
        go_wp2
        go_ret
        exact ⟨by rw [hf.out.1]; rfl, hf.out.2⟩
      by_cases hq0 : q < 0
      · have hf : Hid (tb = false ∧ Below w.heap.size w wr) := ⟨hF.out (hS.out.bad hinH.out (not_good (by omega) (.inr (.inr (.inl (by omega)))))), hP.out.hb⟩
        clear hT hF hS hP hR2
        go_wp2
        go_ret
        exact ⟨by rw [hf.out.1]; rfl, hf.out.2⟩
      by_cases hq1 : (B : Int) < q
      · have hf : Hid (tb = false ∧ Below w.heap.size w wr) := ⟨hF.out (hS.out.bad hinH.out (not_good (by omega) (.inr (.inr (.inr (by rw [← hBH.out]; exact hq1)))))), hP.out.hb⟩
        clear hT hF hS hP hR2
        go_wp2
        go_ret
        exact ⟨by rw [hf.out.1]; rfl, hf.out.2⟩
      by_cases hpz : p = 0
      · subst hpz
        by_cases hqz : q = 0
        · subst hqz
          have z0 : wr.cell? ⟨w.heap.size, 0, none⟩ = some (.int .i64 0) := by
            have h0 : 0 < there.length := by have := ltT.out; omega
            have h1 := (intAt hP.out.own1 rfl 0 h0).1
            rcases hS.out.rt 0 there[0] (List.getElem?_eq_getElem h0) with e | ⟨_, _, e, _⟩
            · rw [e] at h1; exact h1
            · omega
          have z1 : wr.cell? ⟨gb, 0, none⟩ = some (.int .i64 0) := by
            have h0 : 0 < back.length := by have := ltB.out; omega
            have h1 := (intAt hP.out.own2 rfl 0 h0).1
            rcases hS.out.rb 0 back[0] (List.getElem?_eq_getElem h0) with e | ⟨_, _, e, _⟩
            · rw [e] at h1; exact h1
            · omega
          have hS2 : Hid (AlS a b x y there back todo') := hS.out.skip (p := 0) (q := 0) (fun e he => by simpa [or_comm] using he) (fun e he => by simp [he]) (.inl ⟨rfl, rfl⟩)
          clear hT hF hS hR2
          go_wp2
          go_roundg (wtZ (lenAt a) 0 there + todo'.length)
          case measure => have := hk'.out; omega
          case rel => exact ⟨there, back, todo', hP, hS2, rfl, by have := hk'.out; have := hkb.out; show _ ≤ _; omega⟩
        · have hqb : (q == 0) = false := by simpa using hqz
          have hf : Hid (tb = false ∧ Below w.heap.size w wr) := ⟨hF.out (hS.out.bad hinH.out (not_good (by omega) (.inl (by omega)))), hP.out.hb⟩
          clear hT hF hS hP hR2
          go_wp2
          go_ret
          exact ⟨by rw [hf.out.1]; rfl, hf.out.2⟩
      have hpb : (p == 0) = false := by simpa using hpz
      by_cases hqz : q = 0
      · subst hqz
        have hf : Hid (tb = false ∧ Below w.heap.size w wr) := ⟨hF.out (hS.out.bad hinH.out (not_good (by omega) (.inr (.inr (.inl (by omega)))))), hP.out.hb⟩
        clear hT hF hS hP hR2
        go_wp2
        go_ret
        exact ⟨by rw [hf.out.1]; rfl, hf.out.2⟩
      have hqb : (q == 0) = false := by simpa using hqz
      obtain ⟨m, rfl⟩ : ∃ m : Nat, p = (m : Int) + 1 := ⟨(p - 1).toNat, by omega⟩
      obtain ⟨n, rfl⟩ : ∃ n : Nat, q = (n : Int) + 1 := ⟨(q - 1).toNat, by omega⟩
      have hmA : m < A := by omega
      have hnB : n < B := by omega
      have hmA' : (m : Int) < A := by omega
      have hnB' : (n : Int) < B := by omega
      have hm0 : (0 : Int) ≤ m := by omega
      have hnn0 : (0 : Int) ≤ n := by omega
      have lT : m + 1 < there.length := by have := ltT.out; omega
      have lB : n + 1 < back.length := by have := ltB.out; omega
      obtain ⟨hct, hft⟩ := intAt hP.out.own1 rfl (m + 1) lT
      obtain ⟨hcb, hfb⟩ := intAt hP.out.own2 rfl (n + 1) lB
      have htz : Hid (there[m + 1]? = some there[m + 1]) := List.getElem?_eq_getElem lT
      have hbz : Hid (back[n + 1]? = some back[n + 1]) := List.getElem?_eq_getElem lB
      generalize there[m + 1] = tz at htz hct
      generalize back[n + 1] = bz at hbz hcb
      clear lT lB hp0 hp1 hq0 hq1 hpz hqz
      have nz1 : ((m : Int) + 1 != 0) = true := by simp; omega
      have nz2 : ((n : Int) + 1 != 0) = true := by simp; omega
      have e1 : ((m : Int) + 1 != (m : Int) + 1) = false := by simp
      have e2 : ((n : Int) + 1 != (n : Int) + 1) = false := by simp
      have e3 : ((n : Int) + 1 == (n : Int) + 1) = true := by simp
      by_cases t0 : tz = 0
      · subst t0
        by_cases b0 : bz = 0
        · subst b0
          have hma : m < a.length := by rw [← hAH.out]; exact hmA
          have hnb2 : n < b.length := by rw [← hBH.out]; exact hnB
          obtain ⟨ba, offa, rowa, rfl, hba, hla, hra, ⟨ua, rfl, hua⟩⟩ := haH.out.at m hma
          obtain ⟨bb, offb, rowb, rfl, hbb, hlb, hrb, ⟨ub, rfl, hub⟩⟩ := hbH.out.at n hnb2
          obtain ⟨ua1, uc1, rfl⟩ := hua.form
          obtain ⟨ub1, uc2, rfl⟩ := hub.form
          have hoH : Hid (a[m]? = some a[m]) := List.getElem?_eq_getElem hma
          have huH : Hid (b[n]? = some b[n]) := List.getElem?_eq_getElem hnb2
          have hraH : Hid (∀ W, Below w.heap.size w W → W.rangeAt ba (offa + m * 3) [.string a[m].ty, .string a[m].text, .slice ua1 a[m].vals.length uc1]) := fun W hW => rangeAt_same (Same.below hW) (Nat.zero_le _) (by have := hhH.out.1; omega) hra
          have hrbH : Hid (∀ W, Below w.heap.size w W → W.rangeAt bb (offb + n * 3) [.string b[n].ty, .string b[n].text, .slice ub1 b[n].vals.length uc2]) := fun W hW => rangeAt_same (Same.below hW) (Nat.zero_le _) (by have := hhH.out.2; omega) hrb
          have huaH : Hid (∀ W, Below w.heap.size w W → ListAt ValR 2 true lo hi W (.slice ua1 a[m].vals.length uc1) a[m].vals) := fun W hW => hua.kept ValR.stable (Nat.le_refl _) (Nat.le_refl _) ((Same.below hW).mono (Nat.zero_le _) hhH.out.1)
          have hubH : Hid (∀ W, Below w.heap.size w W → ListAt ValR 2 true lo2 hi2 W (.slice ub1 b[n].vals.length uc2) b[n].vals) := fun W hW => hub.kept ValR.stable (Nat.le_refl _) (Nat.le_refl _) ((Same.below hW).mono (Nat.zero_le _) hhH.out.2)
          have hvaH : Hid (a[m].vals.length ≤ 1048576 ∧ lenAt a (m + 1) = a[m].vals.length) := by
            have h1 := sum_mem_le (fun x : ObjL => x.vals.length) a a[m] (List.getElem_mem hma)
            have h2 := hsaH.out
            exact ⟨by omega, by simp only [lenAt, hoH.out]⟩
          have hvbH : Hid (b[n].vals.length ≤ 1048576) := by
            have h1 := sum_mem_le (fun x : ObjL => x.vals.length) b b[n] (List.getElem_mem hnb2)
            have h2 := hsbH.out
            show _ ≤ _
            omega
          clear hra hrb hla hlb hua hub hba hbb
          generalize a[m] = o at *
          generalize b[n] = u at *
          have hbadH : Hid (cmpO o u = false → tb = false) := fun hc => hF.out (hS.out.bad hinH.out (not_good2 hoH.out huH.out hc))
          have hcmp : Hid (cmpO o u = (decide (o.ty = u.ty) && (decide (o.text = u.text) && (decide (o.vals.length = u.vals.length) && (o.vals.zip u.vals).all (fun q => cmpV q.1 q.2))))) := rfl
          have hwt : Hid (wtZ (lenAt a) 0 (there.set (m + 1) ((n : Int) + 1)) + (1 + o.vals.length) = wtZ (lenAt a) 0 there) := by
            have := wtZ_set (lenAt a) ((n : Int) + 1) (by omega) there 0 (m + 1) htz.out
            rw [Nat.zero_add, hvaH.out.2] at this; exact this
          have hSm : Hid (cmpO o u = true → AlS a b x y (there.set (m + 1) ((n : Int) + 1)) (back.set (n + 1) ((m : Int) + 1)) (todo' ++ kids o u)) := fun hc => hS.out.mark hinH.out (fun e he => by
              rcases List.mem_append.1 he with q | q
              · exact .inr (List.mem_append_left _ q)
              · left; simpa using q) (fun e he => by
              rcases List.mem_append.1 he with q | q
              · exact .inl (List.mem_append_left _ q)
              · exact .inr q) (fun e he => List.mem_append_right _ he) hoH.out huH.out hc htz.out hbz.out
          have hP1 := hP.out.set1 (m + 1) ((n : Int) + 1)
          have hcb1 : (wr.setCell ⟨w.heap.size, m + 1, none⟩ (.int .i64 ((n : Int) + 1))).cell? ⟨gb, n + 1, none⟩ = some (.int .i64 0) := by
            rw [World.cell?_setCell_other _ _ _ _ (fun e => hP.out.ne (by injection e))]; exact hcb
          have hfb1 : (wr.setCell ⟨w.heap.size, m + 1, none⟩ (.int .i64 ((n : Int) + 1))).frozen? ⟨gb, n + 1, none⟩ = false := by simpa using hfb
          have hP2 : Hid (RW3 w ((wr.setCell ⟨w.heap.size, m + 1, none⟩ (.int .i64 ((n : Int) + 1))).setCell ⟨gb, n + 1, none⟩ (.int .i64 ((m : Int) + 1))) w.heap.size gb (there.set (m + 1) ((n : Int) + 1)) (back.set (n + 1) ((m : Int) + 1)) (.slice (some ⟨g, 0, none⟩) n' tc) (flatP todo')) := hP1.set2 (n + 1) ((m : Int) + 1)
          clear hP hP1 hS hT hF htz hbz hR2 hinH
          go_upto_region 15 with fail
          obtain ⟨W1, hW1⟩ : ∃ W1, W1 = (wr.setCell ⟨w.heap.size, m + 1, none⟩ (.int .i64 ((n : Int) + 1))).setCell ⟨gb, n + 1, none⟩ (.int .i64 ((m : Int) + 1)) := ⟨_, rfl⟩
          rw [← hW1] at hP2 ⊢
          clear hW1 hcb1 hfb1 hct hft hcb hfb hcp hcq
          have hld : Hid ((Try.prog.info? 36).map (·.size) = some 3) := by show _ = _; kernel_rfl
          have ldaH : Hid (W1.rangeAt ba (offa + m * 3) [.string o.ty, .string o.text, .slice ua1 o.vals.length uc1]) := hraH.out W1 hP2.out.hb
          have ldbH : Hid ((W1.alloc (.cells #[.string o.ty, .string o.text, .slice ua1 o.vals.length uc1] 36)).rangeAt bb (offb + n * 3) [.string u.ty, .string u.text, .slice ub1 u.vals.length uc2]) := hrbH.out _ (hP2.out.hb.alloc hP2.out.hb.size _)
          clear hraH hrbH
          go_upto_region 17 with (first
            | (refine wpList_load_mid rfl 36 _ rfl ba (offa + m * 3) (by first | rfl | (simp; done)) [.string o.ty, .string o.text, .slice ua1 o.vals.length uc1] _ ldaH.out Try.underlying36 rfl hld.out ?_)
            | (refine wpList_load_mid rfl 36 _ rfl bb (offb + n * 3) (by first | rfl | (simp; done)) [.string u.ty, .string u.text, .slice ub1 u.vals.length uc2] _ ldbH.out Try.underlying36 rfl hld.out ?_))
          clear ldaH ldbH
          obtain ⟨W2, hW2⟩ : ∃ W2, W2 = (W1.alloc (.cells #[.string o.ty, .string o.text, .slice ua1 o.vals.length uc1] 36)).alloc (.cells #[.string u.ty, .string u.text, .slice ub1 u.vals.length uc2] 36) := ⟨_, rfl⟩
          have hR3 : Hid (Rec2 W1 W2 [.string o.ty, .string o.text, .slice ua1 o.vals.length uc1] [.string u.ty, .string u.text, .slice ub1 u.vals.length uc2]) := Rec2.start hW2
          have hP3 : Hid (RW3 w W2 w.heap.size gb (there.set (m + 1) ((n : Int) + 1)) (back.set (n + 1) ((m : Int) + 1)) (.slice (some ⟨g, 0, none⟩) n' tc) (flatP todo')) := by
            rw [hW2]; exact (hP2.out.alloc _).alloc _
          have hgW : Hid (g < W1.heap.size) := (own_lt hP2.out.own3 rfl).2
          rw [← hW2]
          clear hW2 hP2
          have o0 := hR3.out.cell1 0 _ rfl
          have o1 := hR3.out.cell1 1 _ rfl
          have o2 := hR3.out.cell1 2 _ rfl
          have u0 := hR3.out.cell2 0 _ rfl
          have u1 := hR3.out.cell2 1 _ rfl
          have u2 := hR3.out.cell2 2 _ rfl
          by_cases hty : o.ty = u.ty
          · rw [hty] at o0
            by_cases htx : o.text = u.text
            · rw [htx] at o1
              by_cases hvl : o.vals.length = u.vals.length
              · rw [hvl] at o2
                have hcmp2 : Hid (cmpO o u = (o.vals.zip u.vals).all (fun q => cmpV q.1 q.2)) := by
                  show _ = _
                  rw [hcmp.out]; simp [hty, htx, hvl]
                have hvlH : Hid (o.vals.length = u.vals.length) := hvl
                clear hcmp hty htx hvl
                go_wp2
                have hI0 : Hid (RWi w W2 W2 (.slice (some ⟨g, 0, none⟩) n' tc) w.heap.size gb (there.set (m + 1) ((n : Int) + 1)) (back.set (n + 1) ((m : Int) + 1)) (.slice (some ⟨g, 0, none⟩) n' tc) (flatP todo')) := RWi.start hP3.out
                have hcell : Hid (∀ W v t, RWi w W2 W (.slice (some ⟨g, 0, none⟩) n' tc) w.heap.size gb (there.set (m + 1) ((n : Int) + 1)) (back.set (n + 1) ((m : Int) + 1)) v t → W.cell? ⟨W1.heap.size, 2, none⟩ = some (.slice ua1 u.vals.length uc1) ∧ W.cell? ⟨W1.heap.size + 1, 2, none⟩ = some (.slice ub1 u.vals.length uc2)) := fun W v t h => by
                  have z := hR3.out.sz
                  have gl := hgW.out
                  have n1 : some W1.heap.size ≠ (Value.slice (some ⟨g, 0, none⟩) n' tc).ownBlock := fun e => by simp [Value.ownBlock] at e; omega
                  have n2 : some (W1.heap.size + 1) ≠ (Value.slice (some ⟨g, 0, none⟩) n' tc).ownBlock := fun e => by simp [Value.ownBlock] at e; omega
                  exact ⟨by rw [h.cell (by omega) n1]; exact o2, by rw [h.cell (by omega) n2]; exact u2⟩
                obtain ⟨zs, hzs⟩ : ∃ zs, zs = o.vals.zip u.vals := ⟨_, rfl⟩
                have hzl : Hid (zs.length = u.vals.length) := by show _ = _; rw [hzs, List.length_zip, hvlH.out]; omega
                have hzg : Hid (∀ i (h : i < zs.length) (h1 : i < o.vals.length) (h2 : i < u.vals.length), zs[i] = (o.vals[i], u.vals[i])) := fun i h h1 h2 => by simp only [hzs, List.getElem_zip]
                have hcm3 : Hid (cmpO o u = zs.all (fun q => cmpV q.1 q.2)) := by show _ = _; rw [hzs]; exact hcmp2.out
                have hkz : Hid (kids o u = kidsL zs) := by show _ = _; rw [hzs]; rfl
                have hLb : (u.vals.length : Int) ≤ 1048576 := by have := hvbH.out; omega
                clear hzs hcmp2 o0 o1 o2 u0 u1 u2 hP3
                have hldv : Hid ((Try.prog.info? 38).map (·.size) = some 2) := by show _ = _; kernel_rfl
                rename World => wro
                go_loopw [11, 16] (fun tv iv wr2 => ∃ i : Nat, i ≤ u.vals.length ∧ iv = .int .i64 i ∧ Hid (RWi w wro wr2 (.slice (some ⟨g, 0, none⟩) n' tc) w.heap.size gb (there.set (m + 1) ((n : Int) + 1)) (back.set (n + 1) ((m : Int) + 1)) tv (flatP (todo' ++ kidsL (zs.take i)))) ∧ Hid ((zs.take i).all (fun q => cmpV q.1 q.2) = true)) (fun _ iv _ => u.vals.length - (intOf iv).toNat)
                case atStart => exact ⟨0, Nat.zero_le _, rfl, by simpa [kidsL] using hI0, by simp [Hid]⟩
                case round =>
                  obtain ⟨i, hi, rfl, hW, hall⟩ := hrel
                  obtain ⟨oc, ucl⟩ := hcell.out wr _ _ hW.out
                  obtain ⟨ln, hln⟩ : ∃ ln, ln = (flatP (todo' ++ kidsL (zs.take i))).length := ⟨_, rfl⟩
                  have hlb : ln ≤ 16777216 := by
                    rw [hln, flatP_length, List.length_append]
                    have h1 := kidsL_length (zs.take i)
                    have h2 := List.length_take_le i zs
                    have h3 := hvbH.out
                    have h4 := hnH.out
                    rw [flatP_length] at h4
                    omega
                  obtain ⟨ta', tc', rfl⟩ := own_form hW.out.r.own3
                  have hlnH : Hid (ln = (flatP (todo' ++ kidsL (zs.take i))).length) := hln
                  rw [← hln] at hW ⊢
                  clear hln
                  by_cases hlt : i < u.vals.length
                  · have hlt' : (i : Int) < u.vals.length := by omega
                    have hi0 : (0 : Int) ≤ i := by omega
                    have hio : i < o.vals.length := by rw [hvlH.out]; exact hlt
                    have hiz : i < zs.length := by rw [hzl.out]; exact hlt
                    obtain ⟨ga, oa, r1, rfl, hga, hl1, hr1, hx1⟩ := (huaH.out wr hW.out.r.hb).at i hio
                    obtain ⟨gb', ob, r2, rfl, hgb, hl2, hr2, hx2⟩ := (hubH.out wr hW.out.r.hb).at i hlt
                    have hx1 : r1 = [.int .i64 o.vals[i].kind, .int .i64 o.vals[i].n] := hx1
                    have hx2 : r2 = [.int .i64 u.vals[i].kind, .int .i64 u.vals[i].n] := hx2
                    have hzi : Hid (zs[i] = (o.vals[i], u.vals[i])) := hzg.out i hiz hio hlt
                    have hsn : Hid (kidsL (zs.take (i + 1)) = kidsL (zs.take i) ++ (if o.vals[i].kind = 4 then [(o.vals[i].n, u.vals[i].n)] else [])) := by
                      have := kidsL_snoc zs i hiz
                      rw [hzi.out] at this; exact this
                    have hal : Hid (cmpV o.vals[i] u.vals[i] = true → (zs.take (i + 1)).all (fun q => cmpV q.1 q.2) = true) := fun h => all_snoc zs _ i hiz hall.out (by rw [hzi.out]; exact h)
                    have hcv : Hid (∀ v w : ValL, cmpV v w = (v.kind == w.kind && (v.kind == 4 || v.n == w.n))) := fun _ _ => rfl
                    generalize o.vals[i] = v1 at *
                    generalize u.vals[i] = v2 at *
                    obtain ⟨k1, z1⟩ := v1
                    obtain ⟨k2, z2⟩ := v2
                    subst hx1
                    subst hx2
                    have hr2' : Hid ((wr.alloc (.cells #[.int .i64 k1, .int .i64 z1] 38)).rangeAt gb' (ob + i * 2) [.int .i64 k2, .int .i64 z2]) := rangeAt_same (Same.below (below_1 _ _)) (Nat.zero_le _) (by have h1 := hhH.out.2; have h2 := hW.out.r.hb.size; omega) hr2
                    have hr1' : Hid (wr.rangeAt ga (oa + i * 2) [.int .i64 k1, .int .i64 z1]) := hr1
                    have ucl' : (wr.alloc (.cells #[.int .i64 k1, .int .i64 z1] 38)).cell? ⟨W1.heap.size + 1, 2, none⟩ = some (.slice (some ⟨gb', ob, none⟩) u.vals.length uc2) := by
                      rw [(below_1 wr _).cell (p := ⟨W1.heap.size + 1, 2, none⟩) (by have h1 := hR3.out.sz; have h2 := hW.out.sz; show W1.heap.size + 1 < _; omega)]; exact ucl
                    clear hl1 hl2 hr1 hr2 hga hgb hzg
                    go_upto_region 24 with (first
                      | (refine wpList_load_mid rfl 38 _ rfl ga (oa + i * 2) (by first | rfl | (simp; done)) [.int .i64 k1, .int .i64 z1] _ hr1'.out Try.underlying38 rfl hldv.out ?_)
                      | (refine wpList_load_mid rfl 38 _ rfl gb' (ob + i * 2) (by first | rfl | (simp; done)) [.int .i64 k2, .int .i64 z2] _ hr2'.out Try.underlying38 rfl hldv.out ?_))
                    obtain ⟨W4, hW4⟩ : ∃ W4, W4 = (wr.alloc (.cells #[.int .i64 k1, .int .i64 z1] 38)).alloc (.cells #[.int .i64 k2, .int .i64 z2] 38) := ⟨_, rfl⟩
                    have hR4 : Hid (Rec2 wr W4 [.int .i64 k1, .int .i64 z1] [.int .i64 k2, .int .i64 z2]) := Rec2.start hW4
                    have hI4 : Hid (RWi w wro W4 (.slice (some ⟨g, 0, none⟩) n' tc) w.heap.size gb (there.set (m + 1) ((n : Int) + 1)) (back.set (n + 1) ((m : Int) + 1)) (.slice ta' ln tc') (flatP (todo' ++ kidsL (zs.take i)))) := by
                      rw [hW4]; exact (hW.out.alloc _).alloc _
                    rw [← hW4]
                    clear hW4 hr1' hr2' oc ucl ucl'
                    have p0 := hR4.out.cell1 0 _ rfl
                    have p1 := hR4.out.cell1 1 _ rfl
                    have q0 := hR4.out.cell2 0 _ rfl
                    have q1 := hR4.out.cell2 1 _ rfl
                    by_cases hk12 : k1 = k2
                    · subst hk12
                      by_cases k4 : k1 = 4
                      · subst k4
                        have hok : Hid ((zs.take (i + 1)).all (fun q => cmpV q.1 q.2) = true) := hal.out (by rw [hcv.out]; simp)
                        have hI5 : Hid (RWi w wro (W4.alloc (.cells #[.int .i64 z1, .int .i64 z2] 2)) (.slice (some ⟨g, 0, none⟩) n' tc) w.heap.size gb (there.set (m + 1) ((n : Int) + 1)) (back.set (n + 1) ((m : Int) + 1)) (.slice ta' ln tc') (flatP (todo' ++ kidsL (zs.take i)))) := hI4.out.alloc _
                        have hown : Hid ((W4.alloc (.cells #[.int .i64 z1, .int .i64 z2] 2)).ownsRow w.heap.size 2 1 (.slice ta' ln tc') ln ((flatP (todo' ++ kidsL (zs.take i))).map (Value.int .i64))) := by
                          have := hI5.out.r.own3
                          rw [← hlnH.out] at this; exact this
                        clear hW hall hI4 hal hcv
                        go_wp2_with (first
                          | (refine wpList_append_own_at _ rfl (.tmp 209) (.tmp 214) 33 rfl w.heap.size 2 i2 (.int .i64 0) 1 8 Try.underlying33 hi2' hz2 hs2 hb2 rfl (by omega) _ ln _ rfl hown.out ⟨W4.heap.size, 0, none⟩ 2 2 [.int .i64 z1, .int .i64 z2] rfl rfl (cell_two_new _ _ _ _) (by simp [Value.oneCell']) (by unfold maxLen; omega) (by omega) hI5.out.r.hb.size ?_; intro v' w' h1 h2 h3 h4))
                        go_roundw
                        case rel =>
                          refine ⟨i + 1, by omega, by go_num, ?_, hok⟩
                          have := hI5.out.append (news := [z1, z2]) (by rw [← hlnH.out]; exact h1) h2 h4
                          show RWi _ _ _ _ _ _ _ _ _ _
                          rw [hsn.out, if_pos rfl, ← List.append_assoc, flatP_append]; exact this
                        case measure => simp [intOf]; omega
                      · have kb : (k1 == 4) = false := by simpa using k4
                        have kb2 : (k1 != 4) = true := by simpa using k4
                        by_cases hz : z1 = z2
                        · subst hz
                          have hok : Hid ((zs.take (i + 1)).all (fun q => cmpV q.1 q.2) = true) := hal.out (by rw [hcv.out]; simp)
                          have hI6 : Hid (RWi w wro W4 (.slice (some ⟨g, 0, none⟩) n' tc) w.heap.size gb (there.set (m + 1) ((n : Int) + 1)) (back.set (n + 1) ((m : Int) + 1)) (.slice ta' ln tc') (flatP (todo' ++ kidsL (zs.take (i + 1))))) := by
                            show RWi _ _ _ _ _ _ _ _ _ _
                            rw [hsn.out, if_neg k4, List.append_nil]; exact hI4.out
                          clear hW hall hI4 hal hcv hsn
                          go_wp2
                          go_roundw
                          case rel => exact ⟨i + 1, by omega, by go_num, hI6, hok⟩
                          case measure => simp [intOf]; omega
                        · have zb : (z1 != z2) = true := by simpa using hz
                          have hf : Hid (tb = false ∧ Below w.heap.size w W4) := ⟨hbadH.out (by rw [hcm3.out]; exact all_false zs _ i hiz (by rw [hzi.out]; rw [hcv.out]; simp [k4, hz])), hI4.out.r.hb⟩
                          clear hW hall hI4 hR4 hbadH
                          go_wp2
                          go_ret
                          exact ⟨by rw [hf.out.1]; rfl, hf.out.2⟩
                    · have kb : (k1 != k2) = true := by simpa using hk12
                      have hf : Hid (tb = false ∧ Below w.heap.size w W4) := ⟨hbadH.out (by rw [hcm3.out]; exact all_false zs _ i hiz (by rw [hzi.out]; rw [hcv.out]; simp [hk12])), hI4.out.r.hb⟩
                      clear hW hall hI4 hR4 hbadH
                      go_wp2
                      go_ret
                      exact ⟨by rw [hf.out.1]; rfl, hf.out.2⟩
                  · have hie : i = u.vals.length := by omega
                    have hfin : Hid (RW3 w wr w.heap.size gb (there.set (m + 1) ((n : Int) + 1)) (back.set (n + 1) ((m : Int) + 1)) (.slice ta' ln tc') (flatP (todo' ++ kids o u))) := by
                      have h := hW.out.r
                      rw [List.take_of_length_le (by rw [hzl.out]; omega), ← hkz.out] at h
                      exact h
                    have hct : Hid (cmpO o u = true) := by
                      have h := hall.out
                      rw [List.take_of_length_le (by rw [hzl.out]; omega)] at h
                      show _ = _
                      rw [hcm3.out]; exact h
                    have hkl : Hid ((kids o u).length ≤ o.vals.length) := by
                      show _ ≤ _
                      rw [hkz.out, hvlH.out, ← hzl.out]; exact kidsL_length zs
                    clear hW hall hlnH
                    go_wp2
                    go_roundg (wtZ (lenAt a) 0 (there.set (m + 1) ((n : Int) + 1)) + (todo' ++ kids o u).length)
                    case measure => have h1 := hk'.out; have h2 := hwt.out; have h3 := hkl.out; rw [List.length_append]; omega
                    case rel => exact ⟨_, _, _, hfin, hSm.out hct.out, rfl, by have h1 := hk'.out; have h2 := hwt.out; have h3 := hkl.out; have h4 := hkb.out; show _ ≤ _; rw [List.length_append]; omega⟩
              · have evl : ((o.vals.length : Int) != (u.vals.length : Int)) = true := by simp; omega
                have evl' : ¬ (o.vals.length : Int) = (u.vals.length : Int) := by omega
                have hf : Hid (tb = false ∧ Below w.heap.size w W2) := ⟨hbadH.out (by rw [hcmp.out]; simp [hvl]), hP3.out.hb⟩
                clear hcmp hbadH hP3 hR3 hty htx hvl
                go_wp2
                go_ret
                exact ⟨by rw [hf.out.1]; rfl, hf.out.2⟩
            · have etx := str_ne htx
              have etx' := str_ne' htx
              have hf : Hid (tb = false ∧ Below w.heap.size w W2) := ⟨hbadH.out (by rw [hcmp.out]; simp [htx]), hP3.out.hb⟩
              clear hcmp hbadH hP3 hR3 hty htx
              go_wp2
              go_ret
              exact ⟨by rw [hf.out.1]; rfl, hf.out.2⟩
          · have ety := str_ne hty
            have ety' := str_ne' hty
            have hf : Hid (tb = false ∧ Below w.heap.size w W2) := ⟨hbadH.out (by rw [hcmp.out]; simp [hty]), hP3.out.hb⟩
            clear hcmp hbadH hP3 hR3 hty
            go_wp2
            go_ret
            exact ⟨by rw [hf.out.1]; rfl, hf.out.2⟩
        · have b1 : (bz != 0) = true := by simpa using b0
          have hne : bz ≠ (m : Int) + 1 := fun e => by
            have h := hbz.out
            rw [e] at h
            have := (hS.out.sym m n).2 h
            rw [htz.out] at this
            have : (0 : Int) = (n : Int) + 1 := by injection this
            omega
          have b2 : (bz != (m : Int) + 1) = true := by simpa using hne
          have hf : Hid (tb = false ∧ Below w.heap.size w wr) := ⟨hF.out (hS.out.clash2 (j := n + 1) hinH.out (by omega) hbz.out b0 hne), hP.out.hb⟩
          clear hT hF hS hP hR2
          go_wp2
          go_ret
          exact ⟨by rw [hf.out.1]; rfl, hf.out.2⟩
      · have t1 : (tz != 0) = true := by simpa using t0
        by_cases tq : tz = (n : Int) + 1
        · subst tq
          have hbe : bz = (m : Int) + 1 := by
            have := (hS.out.sym m n).1 htz.out
            rw [hbz.out] at this
            injection this
          subst hbe
          have hS2 : Hid (AlS a b x y there back todo') := hS.out.skip (p := (m : Int) + 1) (q := (n : Int) + 1) (fun e he => by simpa [or_comm] using he) (fun e he => by simp [he]) (.inr ⟨m, n, rfl, rfl, htz.out⟩)
          clear hT hF hS hR2
          go_wp2
          go_roundg (wtZ (lenAt a) 0 there + todo'.length)
          case measure => have := hk'.out; omega
          case rel => exact ⟨there, back, todo', hP, hS2, rfl, by have := hk'.out; have := hkb.out; show _ ≤ _; omega⟩
        · have t2 : (tz != (n : Int) + 1) = true := by simpa using tq
          have hf : Hid (tb = false ∧ Below w.heap.size w wr) := ⟨hF.out (hS.out.clash (j := m + 1) hinH.out (by omega) htz.out t0 tq), hP.out.hb⟩
          clear hT hF hS hP hR2
          go_wp2
          go_ret
          exact ⟨by rw [hf.out.1]; rfl, hf.out.2⟩
end Go.Proofs.Ytjhlbgohpofmnaa
