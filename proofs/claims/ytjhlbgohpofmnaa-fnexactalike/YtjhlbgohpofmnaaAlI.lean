/- What the program answers: pair by pair. -/
import Derived.Test.YtjhlbgohpofmnaaAlU
import Derived.Test.YtjhlbgohpofmnaaAlL
namespace Go.Proofs.Ytjhlbgohpofmnaa
set_option linter.unusedVariables false
open Go.ChangeShapes Go.WideShapes Go.ChangeAt Go.RowKit Go.Maps

def objP (A B : Nat) (row : List (Int × Int)) (o u : ObjL) : Option (List (Int × Int)) := if (o.ty = u.ty ∧ o.text = u.text) ∧ o.vals.length = u.vals.length then valsP A B row (o.vals.zip u.vals) else none
theorem ObjQ.meet {w : World} {ua ub : Value} {P M1 M2 A B : Nat} {row : List (Int × Int)} {o u : ObjL} {e : Ending} {w' : World} (h : ObjQ w ua ub P M1 M2 A B row o u e w') : MeetQ w ua ub P M1 M2 (objP A B row o u) e w' := by
  unfold ObjQ at h
  unfold objP
  split at h
  · rename_i h1
    unfold ValsQ at h
    split at h
    · rename_i h2
      rw [if_pos ⟨h1, h2⟩]; exact h
    · rename_i h2
      rw [if_neg (fun q => h2 q.2)]; exact h
  · rename_i h1
    rw [if_neg (fun q => h1 q.1)]; exact h
theorem objP_none {a b : List ObjL} {x y : Int} {row : List (Int × Int)} {k m n : Nat} {o u : ObjL} (h : PrK a b x y row k) (hk : row[k]? = some ((m : Int) + 1, (n : Int) + 1)) (ho : a[m]? = some o) (hu : b[n]? = some u) (hn : objP a.length b.length row o u = none) : ¬ AlikeP a b x y := by
  unfold objP at hn
  split at hn
  · exact h.noVals hk ho hu hn
  · rename_i hne
    refine h.noObj hk ho hu ?_
    cases hc : cmpO o u with
    | false => rfl
    | true =>
      exfalso
      simp only [cmpO, Bool.and_eq_true, decide_eq_true_eq] at hc
      exact hne ⟨⟨hc.1, hc.2.1⟩, hc.2.2.1⟩
theorem objP_some {a b : List ObjL} {x y : Int} {row row' : List (Int × Int)} {k m n : Nat} {o u : ObjL} (h : PrK a b x y row k) (hk : row[k]? = some ((m : Int) + 1, (n : Int) + 1)) (ho : a[m]? = some o) (hu : b[n]? = some u) (hn : objP a.length b.length row o u = some row') : PrK a b x y row' (k + 1) := by
  unfold objP at hn
  split at hn
  · rename_i h1
    exact h.step hk ho hu h1.1.1 h1.1.2 h1.2 hn
  · cases hn
theorem valsP_len {a b : List ObjL} {x y : Int} {row : List (Int × Int)} {k m n : Nat} {o u : ObjL} (h : PrK a b x y row k) (hk : row[k]? = some ((m : Int) + 1, (n : Int) + 1)) (ho : a[m]? = some o) (hu : b[n]? = some u) (j : Nat) (row' : List (Int × Int)) (hv : valsP a.length b.length row ((o.vals.zip u.vals).take j) = some row') : row'.length ≤ a.length :=
  (PrS.vals (h.pr _ (List.mem_of_getElem? hk)) ho hu _ row row' (fun e he hk4 => by
    unfold kids kidsL
    exact List.mem_map.2 ⟨e, List.mem_filter.2 ⟨List.mem_of_mem_take he, by simpa using hk4⟩, rfl⟩) h.toPrS hv).1.len
theorem pair_start (w : World) (ua ub : Value) (t : TypeId) : PairW w (((w.alloc (.map #[] 0)).alloc (.map #[] 0)).alloc (.cells #[ua, ub, .map (some w.heap.size), .map (some (w.heap.size + 1)), .slice none 0 0] t)) ua ub (w.heap.size + 1 + 1) w.heap.size (w.heap.size + 1) (.slice none 0 0) [] := by
  have g1 := World.grownBy_alloc (w.alloc (.map #[] 0)) (.map #[] 0) none
  have g2 := World.grownBy_alloc ((w.alloc (.map #[] 0)).alloc (.map #[] 0)) (.cells #[ua, ub, .map (some w.heap.size), .map (some (w.heap.size + 1)), .slice none 0 0] t) none
  have e := heap_alloc_new ((w.alloc (.map #[] 0)).alloc (.map #[] 0)) (.cells #[ua, ub, .map (some w.heap.size), .map (some (w.heap.size + 1)), .slice none 0 0] t)
  simp only [World.size_alloc] at e
  have c : ∀ j v, ([ua, ub, .map (some w.heap.size), .map (some (w.heap.size + 1)), .slice none 0 0] : List Value)[j]? = some v → (((w.alloc (.map #[] 0)).alloc (.map #[] 0)).alloc (.cells #[ua, ub, .map (some w.heap.size), .map (some (w.heap.size + 1)), .slice none 0 0] t)).cell? ⟨w.heap.size + 1 + 1, j, none⟩ = some v := fun j v hv => by
    have := rangeAt_heap e j v hv
    simpa using this
  have m1 : PartMap (w.alloc (.map #[] 0)) w.heap.size [] := ⟨.map [], World.ownsMap_made (H := Unit) w Try.prog 2 _, fun z => ⟨by simp [Maps.has, fsts], rfl⟩⟩
  have m2 : TakeMap ((w.alloc (.map #[] 0)).alloc (.map #[] 0)) (w.heap.size + 1) [] := ⟨.map [], by simpa using World.ownsMap_made (H := Unit) (w.alloc (.map #[] 0)) Try.prog 2 _, fun z => by simp [Maps.has, snds]⟩
  refine ⟨(((Below.refl _ _).alloc (Nat.le_refl _) _).alloc (by simp) _).alloc (by simp; omega) _, c 0 _ rfl, c 1 _ rfl, c 2 _ rfl, c 3 _ rfl, c 4 _ rfl, ?_, World.ownsRow_nil _ _ _ _, (m1.kept g1 (by simp)).kept g2 (by simp), m2.kept g2 (by simp), ⟨by omega, Nat.le_refl _, by omega⟩, ?_, ⟨by omega, by omega, by omega⟩, ?_⟩
  · simp only [World.frozen?, e]; simp
  · simp only [World.size_alloc]; omega
  · simp [Value.ownBlock]
theorem objFull {own : Bool} {lo hi : Nat} {w : World} {a : Option Addr} {n c : Nat} {objs : List ObjL} (h : ListAt ObjR 3 own lo hi w (.slice a n c) objs) (hh : hi ≤ w.heap.size) (m : Nat) (hm : m < objs.length) : ∃ b off ga gc, a = some ⟨b, off, none⟩ ∧ ObjsAt w.heap.size w b off m objs[m].ty objs[m].text ga objs[m].vals.length gc ∧ ValsAt w.heap.size w ga objs[m].vals := by
  obtain ⟨b, off, row, ha, hb, hl, hr, ⟨u, rfl, hu⟩⟩ := h.at m hm
  obtain ⟨ga, gc, rfl⟩ := hu.form
  refine ⟨b, off, ga, gc, ha, fun W hW => ⟨?_, ?_, ?_⟩, fun W hW j hj => ?_⟩
  · rw [hW.cell (p := ⟨b, off + m * 3, none⟩) (by show b < _; omega)]; simpa using hr 0 _ rfl
  · rw [hW.cell (p := ⟨b, off + m * 3 + 1, none⟩) (by show b < _; omega)]; simpa using hr 1 _ rfl
  · rw [hW.cell (p := ⟨b, off + m * 3 + 2, none⟩) (by show b < _; omega)]; simpa using hr 2 _ rfl
  · obtain ⟨g, o, row2, hua, hg, hl2, hr2, hx2⟩ := hu.at j hj
    have hx2 : row2 = [.int .i64 objs[m].vals[j].kind, .int .i64 objs[m].vals[j].n] := hx2
    subst hx2
    refine ⟨g, o, hua, ?_, ?_⟩
    · rw [hW.cell (p := ⟨g, o + j * 2, none⟩) (by show g < _; omega)]; simpa using hr2 0 _ rfl
    · rw [hW.cell (p := ⟨g, o + j * 2 + 1, none⟩) (by show g < _; omega)]; simpa using hr2 1 _ rfl

set_option maxRecDepth 1000000 in
set_option maxHeartbeats 4000000 in
theorem implAlike_calls (a b : List ObjL) (x y : Int) (u0 u1 : Value) (w : World) (lo hi lo2 hi2 : Nat) (hh : hi ≤ w.heap.size) (hh2 : hi2 ≤ w.heap.size) (ha : ListAt ObjR 3 true lo hi w u0 a) (hb : ListAt ObjR 3 true lo2 hi2 w u1 b) (sa : Sm a) (sb : Sm b) :
    Calls Try.prog 7 #[u0, .int .i64 x, u1, .int .i64 y] w fun e w' => e = .returned (.bool (alikeB a b x y)) ∧ Below w.heap.size w w' := by
  obtain ⟨a0, ca, rfl⟩ := ha.form
  obtain ⟨b0, cb, rfl⟩ := hb.form
  have hoA : Hid (∀ m (hm : m < a.length), ∃ bk off ga gc, a0 = some ⟨bk, off, none⟩ ∧ ObjsAt w.heap.size w bk off m a[m].ty a[m].text ga a[m].vals.length gc ∧ ValsAt w.heap.size w ga a[m].vals) := fun m hm => objFull ha hh m hm
  have hoB : Hid (∀ m (hm : m < b.length), ∃ bk off ga gc, b0 = some ⟨bk, off, none⟩ ∧ ObjsAt w.heap.size w bk off m b[m].ty b[m].text ga b[m].vals.length gc ∧ ValsAt w.heap.size w ga b[m].vals) := fun m hm => objFull hb hh2 m hm
  have hsa : Hid (Sm a) := sa
  have hsb : Hid (Sm b) := sb
  have hAl : a.length ≤ 1048576 := sa.n
  have hBl : b.length ≤ 1048576 := sb.n
  obtain ⟨A, hA⟩ : ∃ A, A = a.length := ⟨_, rfl⟩
  obtain ⟨B, hB⟩ : ∃ B, B = b.length := ⟨_, rfl⟩
  have hAH : Hid (A = a.length) := hA
  have hBH : Hid (B = b.length) := hB
  rw [← hA] at hAl ⊢
  rw [← hB] at hBl ⊢
  clear hA hB ha hb hh hh2 sa sb
  have hst : Hid (PairW w (((w.alloc (.map #[] 0)).alloc (.map #[] 0)).alloc (.cells #[.slice a0 A ca, .slice b0 B cb, .map (some w.heap.size), .map (some (w.heap.size + 1)), .slice none 0 0] 44)) (.slice a0 A ca) (.slice b0 B cb) (w.heap.size + 1 + 1) w.heap.size (w.heap.size + 1) (.slice none 0 0) []) := pair_start w _ _ _
  have hmm := @run_makeMap Try.prog
  have hyes : Hid (AlikeP a b x y → alikeB a b x y = true) := fun h => by unfold alikeB; exact @decide_eq_true _ (Classical.propDecidable _) h
  have hno : Hid (¬ AlikeP a b x y → alikeB a b x y = false) := fun h => by unfold alikeB; exact @decide_eq_false _ (Classical.propDecidable _) h
  generalize alikeB a b x y = ans at hyes hno ⊢
  go_enter Try.func7, Try.ntmps7
  go_wp2_with fail
  refine (meet_calls x y w _ a0 b0 A B ca cb _ _ _ _ [] hAl hBl (by simp) hst.out).mono ?_
  intro e w1 hq
  clear hst
  generalize w.heap.size + 1 + 1 = P at *
  generalize w.heap.size + 1 = M2 at *
  generalize hM1 : w.heap.size = M1 at hq ⊢
  have hA' : (A : Int) ≤ 1048576 := by omega
  cases hmq : meetP A B [] x y with
  | none =>
    rw [hmq] at hq
    obtain ⟨rfl, hb1⟩ := hq
    have hans : Hid (ans = false) := hno.out ((PrS.start a b x y).no .base (by rw [← hAH.out, ← hBH.out]; exact hmq))
    have hbH : Hid (Below w.heap.size w w1) := hb1
    clear hb1 hmq hM1
    go_wp2
    go_ret
    exact ⟨by rw [hans.out]; rfl, hbH.out⟩
  | some row0 =>
    rw [hmq] at hq
    obtain ⟨rfl, rv0, hP0⟩ := hq
    have hK0 : Hid (PrK a b x y row0 0) := PrK.start (by rw [← hAH.out, ← hBH.out]; exact hmq)
    have hPH : Hid (PairW w w1 (.slice a0 A ca) (.slice b0 B cb) P M1 M2 rv0 row0) := hP0
    clear hP0 hmq
    go_wp2_with fail
    go_loopw [10] (fun av wr => ∃ (k : Nat) (rv : Value) (row : List (Int × Int)), av = .int .i64 k ∧ k ≤ A ∧ Hid (PairW w wr (.slice a0 A ca) (.slice b0 B cb) P M1 M2 rv row) ∧ Hid (PrK a b x y row k)) (fun av _ => A - (intOf av).toNat)
    case atStart => exact ⟨0, rv0, row0, rfl, Nat.zero_le _, hPH, hK0⟩
    case round =>
      clear hPH hK0
      obtain ⟨k, rv, row, rfl, hkA, hM, hK⟩ := hrel
      obtain ⟨ra, rc, rfl⟩ := own_form hM.out.own
      have c4 := hM.out.p4
      have hrl : Hid (row.length ≤ A) := by show _ ≤ _; rw [hAH.out]; exact hK.out.len
      obtain ⟨ln, hln⟩ : ∃ ln, ln = row.length := ⟨_, rfl⟩
      have hlnH : Hid (ln = row.length) := hln
      rw [← hln] at hM c4 hrl
      have hlb : (ln : Int) ≤ 1048576 := by have := hrl.out; omega
      clear hln
      by_cases hlt : k < ln
      · have hlt' : (k : Int) < ln := by omega
        have hk0 : (0 : Int) ≤ k := by omega
        have hkl : k < row.length := by rw [← hlnH.out]; exact hlt
        obtain ⟨m, n, hmn, hma, hnb⟩ := hK.out.rg row[k] (List.getElem_mem hkl)
        have hxk : Hid (row[k]? = some ((m : Int) + 1, (n : Int) + 1)) := by show _ = _; rw [List.getElem?_eq_getElem hkl, hmn]
        obtain ⟨g, gc, hge⟩ := own_some hM.out.own (by omega)
        injection hge with hge1 _ _
        subst hge1
        have hco : wr.cell? ⟨g, k * 2, none⟩ = some (.int .i64 ((m : Int) + 1)) ∧ wr.cell? ⟨g, k * 2 + 1, none⟩ = some (.int .i64 ((n : Int) + 1)) := by
          have h1 := hM.out.own
          have h2 := rowV_get row k _ _ hxk.out
          have h3 := rowV_length row
          rw [← hlnH.out] at h1
          refine ⟨?_, ?_⟩
          · rw [h1.cellAt (k * 2) (by omega)]; exact h2.1
          · rw [h1.cellAt (k * 2 + 1) (by omega)]; exact h2.2
        obtain ⟨cx0, cx1⟩ := hco
        obtain ⟨ba, oa, ga, gca, rfl, hOa, hVa⟩ := hoA.out m hma
        obtain ⟨bb, ob, gb, gcb, rfl, hOb, hVb⟩ := hoB.out n hnb
        have hcall : Hid (Calls Try.prog 12 #[.pointer (some ⟨P, 0, none⟩), .agg #[.int .i64 ((m : Int) + 1), .int .i64 ((n : Int) + 1)]] wr fun e w' => MeetQ w (.slice (some ⟨ba, oa, none⟩) A ca) (.slice (some ⟨bb, ob, none⟩) B cb) P M1 M2 (objP A B row a[m] b[n]) e w') :=
          (sameObjects_calls m n a[m] b[n] w wr ba oa bb ob A B ca cb P M1 M2 _ row ga gb a[m].vals.length b[n].vals.length gca gcb (by rw [hAH.out]; exact hma) (by rw [hBH.out]; exact hnb) rfl rfl (hsa.out.s _ (List.getElem_mem hma)) (hsb.out.s _ (List.getElem_mem hnb)) hAl hBl
            (fun j row' hv => Nat.le_trans (valsP_len hK.out hxk.out (List.getElem?_eq_getElem hma) (List.getElem?_eq_getElem hnb) j row' (by rw [← hAH.out, ← hBH.out]; exact hv)) (by rw [← hAH.out]; exact hAl)) hVa hVb hOa hOb hM.out).mono (fun e w' h => h.meet)
        have hsome : Hid (∀ row', objP A B row a[m] b[n] = some row' → PrK a b x y row' (k + 1)) := fun row' h => objP_some hK.out hxk.out (List.getElem?_eq_getElem hma) (List.getElem?_eq_getElem hnb) (by rw [← hAH.out, ← hBH.out]; exact h)
        have hnone : Hid (objP A B row a[m] b[n] = none → ¬ AlikeP a b x y) := fun h => objP_none hK.out hxk.out (List.getElem?_eq_getElem hma) (List.getElem?_eq_getElem hnb) (by rw [← hAH.out, ← hBH.out]; exact h)
        have hkA' : k + 1 ≤ A := by have := hrl.out; omega
        generalize objP A B row a[m] b[n] = r at hcall hsome hnone
        clear hOa hVa hOb hVb hM hxk hmn hkl hlnH hrl hK
        go_wp2_with fail
        refine hcall.out.mono ?_
        intro e w2 hq
        cases r with
        | none =>
          obtain ⟨rfl, hb2⟩ := hq
          have hans : Hid (ans = false) := hno.out (hnone.out rfl)
          have hbH : Hid (Below w.heap.size w w2) := hb2
          clear hb2 hcall hsome hnone
          go_wp2
          go_ret
          exact ⟨by rw [hans.out]; rfl, hbH.out⟩
        | some row' =>
          obtain ⟨rfl, rv', hP'⟩ := hq
          have hPH' : Hid (PairW w w2 (.slice (some ⟨ba, oa, none⟩) A ca) (.slice (some ⟨bb, ob, none⟩) B cb) P M1 M2 rv' row') := hP'
          have hK' : Hid (PrK a b x y row' (k + 1)) := hsome.out row' rfl
          clear hP' hcall hsome hnone
          go_wp2
          go_roundw
          case rel => exact ⟨k + 1, rv', row', by go_num, hkA', hPH', hK'⟩
          case measure => simp [intOf]; omega
      · have hans : Hid (ans = true) := hyes.out (hK.out.done (by rw [← hlnH.out]; omega))
        have hbH : Hid (Below w.heap.size w wr) := hM.out.hb
        clear hM hK
        go_wp2
        go_ret
        exact ⟨by rw [hans.out]; rfl, hbH.out⟩
end Go.Proofs.Ytjhlbgohpofmnaa
