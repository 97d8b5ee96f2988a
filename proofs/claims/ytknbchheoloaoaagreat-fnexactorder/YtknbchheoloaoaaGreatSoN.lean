/- spec.l11AddRace. -/
import Derived.Test.YtknbchheoloaoaaGreatSoL
import Derived.Lib.QuietBelow
import Derived.Deep.Cut
namespace Go.Proofs.YtknbchheoloaoaaGreat
set_option linter.unusedVariables false
open Go.ChangeShapes Go.WideShapes Go.ChangeAt Go.RowKit

def racesC (rs : List RaceL) : List Value := rs.flatMap RaceL.v
theorem racesC_length (rs : List RaceL) : (racesC rs).length = rs.length * 4 := by
 induction rs with
 | nil => rfl
 | cons r l ih => simp only [racesC, List.flatMap_cons, List.length_append, List.length_cons] at ih ⊢; rw [ih]; simp [RaceL.v]; omega
theorem racesC_append (a b : List RaceL) : racesC (a ++ b) = racesC a ++ racesC b := by simp [racesC]
theorem racesC_one (r : RaceL) : racesC [r] = r.v := by simp [racesC]
theorem racesC_get {rs : List RaceL} {j : Nat} (hj : j < rs.length) (k : Nat) (hk : k < 4) : (racesC rs)[j * 4 + k]? = rs[j].v[k]? := by
 have e : rs = rs.take j ++ rs[j] :: rs.drop (j + 1) := by rw [← List.drop_eq_getElem_cons hj, List.take_append_drop]
 have e2 : racesC rs = racesC (rs.take j) ++ (rs[j].v ++ racesC (rs.drop (j + 1))) := by
  conv => lhs; rw [e]
  rw [racesC_append]
  simp only [racesC, List.flatMap_cons]
 have hl : (racesC (rs.take j)).length = j * 4 := by rw [racesC_length]; simp; omega
 rw [e2, List.getElem?_append_right (by omega), hl, show j * 4 + k - j * 4 = k by omega, List.getElem?_append_left (by simp [RaceL.v]; omega)]
theorem racesC_one' (rs : List RaceL) : ∀ u ∈ racesC rs, u.oneCell' = true := fun u hu => by
 obtain ⟨r, _, hr⟩ := List.mem_flatMap.1 hu
 simp only [RaceL.v, List.mem_cons, List.not_mem_nil, or_false] at hr
 rcases hr with rfl | rfl | rfl | rfl <;> rfl
def RacesAt (B : Nat) (w : World) (v : Value) (rs : List RaceL) : Prop := w.ownsRow B 89 4 v rs.length (racesC rs)
theorem RacesAt.below {B : Nat} {w w' : World} {v : Value} {rs : List RaceL} (h : RacesAt B w v rs) (hb : Below w.heap.size w w') : RacesAt B w' v rs := own_below h hb fun g hg => (World.ownsRow.lt h g hg).2
theorem RacesAt.cells {w : World} {B g n c : Nat} {rs : List RaceL} (h : RacesAt B w (.slice (some ⟨g, 0, none⟩) n c) rs) {j : Nat} (hj : j < rs.length) : w.cell? ⟨g, j * 4, none⟩ = some (.int .i64 rs[j].t) ∧ w.cell? ⟨g, j * 4 + 1, none⟩ = some (.int .i64 rs[j].a) ∧ w.cell? ⟨g, j * 4 + 2, none⟩ = some (.int .i64 rs[j].u) ∧ w.cell? ⟨g, j * 4 + 3, none⟩ = some (.int .i64 rs[j].b) := by
 have hn : n = rs.length := by obtain ⟨a', c', e⟩ := own_form h; injection e
 subst hn
 refine ⟨?_, ?_, ?_, ?_⟩
 ·rw [World.ownsRow.cellAt h (j * 4) (by omega)]; exact racesC_get hj 0 (by omega)
 ·rw [World.ownsRow.cellAt h (j * 4 + 1) (by omega)]; exact racesC_get hj 1 (by omega)
 ·rw [World.ownsRow.cellAt h (j * 4 + 2) (by omega)]; exact racesC_get hj 2 (by omega)
 ·rw [World.ownsRow.cellAt h (j * 4 + 3) (by omega)]; exact racesC_get hj 3 (by omega)
def mkRace (t i u k : Int) : RaceL := if u < t then ⟨u, k, t, i⟩ else ⟨t, i, u, k⟩
def posR (rs : List RaceL) (r : RaceL) : Nat := (rs.takeWhile fun q => lessR q r).length
def insR (rs : List RaceL) (r : RaceL) : List RaceL := if rs[posR rs r]? = some r then rs else rs.take (posR rs r) ++ r :: rs.drop (posR rs r)
theorem takeWhile_drop_pos {rs : List RaceL} {r : RaceL} {m : Nat} (hm : m < rs.length) (hl : lessR rs[m] r = true) (h : m + ((rs.drop m).takeWhile fun q => lessR q r).length = posR rs r) : m + 1 + ((rs.drop (m + 1)).takeWhile fun q => lessR q r).length = posR rs r := by
 rw [List.drop_eq_getElem_cons hm, List.takeWhile_cons, hl] at h
 simp at h
 omega
theorem takeWhile_drop_end {rs : List RaceL} {r : RaceL} {m : Nat} (hm : m < rs.length) (hl : lessR rs[m] r = false) (h : m + ((rs.drop m).takeWhile fun q => lessR q r).length = posR rs r) : posR rs r = m := by
 rw [List.drop_eq_getElem_cons hm, List.takeWhile_cons, hl] at h
 simp at h
 omega
structure RcW (w W : World) (g : Nat) (r : RaceL) : Prop where
 hb : Below w.heap.size w W
 lo : w.heap.size ≤ g
 hi : g < W.heap.size
 c0 : W.cell? ⟨g, 0, none⟩ = some (.int .i64 r.t)
 c1 : W.cell? ⟨g, 1, none⟩ = some (.int .i64 r.a)
 c2 : W.cell? ⟨g, 2, none⟩ = some (.int .i64 r.u)
 c3 : W.cell? ⟨g, 3, none⟩ = some (.int .i64 r.b)
theorem RcW.on {w W W' : World} {g : Nat} {r : RaceL} (h : RcW w W g r) (hb : Below W.heap.size W W') : RcW w W' g r := by
 obtain ⟨h1, h2, h3, c0, c1, c2, c3⟩ := h
 have := hb.size
 have c : ∀ o, W'.cell? ⟨g, o, none⟩ = W.cell? ⟨g, o, none⟩ := fun o => hb.cell (p := ⟨g, o, none⟩) h3
 exact ⟨below_on h1 hb, h2, by omega, by rw [c]; exact c0, by rw [c]; exact c1, by rw [c]; exact c2, by rw [c]; exact c3⟩

def SrcAt (w : World) (size : Nat) (xv : Value) (m : Nat) (news : List Value) : Prop := (xv = .slice none 0 0 ∧ m = 0 ∧ news = []) ∨ ∃ ad c, xv = .slice (some ad) m c ∧ news.length = m * size ∧ ∀ j u, news[j]? = some u → w.cell? (ad.add j) = some u
theorem wpList_append_src {P : Program} {w : World} {ops : Array Oper} {rest : List Oper} {o : Oper} {a : Act} {Q : Exit → Act → World → Prop} (hgd : o.guard = none) (s x : Operand) (t : TypeId)
  (ho : o.op = .call { callee := .builtin .append, args := #[s, x], argTypes := #[t, t] })
  (base : Nat) (e : TypeId) (i : TypeInfo) (z : Value) (size bytes : Nat) (ht : P.underlying t = some (.slice e)) (hi : P.info? e = some i) (hz : i.zero = some z)
  (hsize : i.size = size) (hby : i.bytes = bytes) (hzs : z.cells.size = size) (hsz : 0 < size)
  (v : Value) (n : Nat) (xs : List Value) (hs : a.eval s = v) (hown : w.ownsRow base e size v n xs)
  (xv : Value) (m : Nat) (news : List Value) (hx : a.eval x = xv) (hsrc : SrcAt w size xv m news) (h1 : ∀ u ∈ news, u.oneCell' = true)
  (h63 : n + m ≤ maxLen) (hbytes : (n + m) * bytes ≤ 140737488355328) (hbase : base ≤ w.heap.size)
  (h : ∀ v' w', w'.ownsRow base e size v' (n + m) (xs ++ news) → w.grownBy w' v.ownBlock → (v'.ownBlock = v.ownBlock ∨ v'.ownBlock = some w.heap.size) → wpList P ops Q rest (a.put o.dst v') w') :
  wpList P ops Q (o :: rest) a w := by
 rcases hsrc with ⟨e1, e2, e3⟩ | ⟨ad, c, e1, hl, hc⟩
 ·subst e1; subst e2; subst e3
  refine wpList_plain hgd fun K hK => ?_
  have hr := run_append_owned_none (P := P) w base t o.type e i size ht hi v n xs hown
  unfold Oper.wp execOp
  simp only [ho, resolve, invoke, builtin, Sem.run_bind, Sem.run_pure, Result.andThen_ok, List.map_toArray, List.map_cons, List.map_nil, hs, hx, hr]
  exact hK _ _ (h v w (by rw [List.append_nil]; exact hown) ⟨rfl, rfl, rfl, Nat.le_refl _, fun _ _ _ => rfl⟩ (.inl rfl))
 ·subst e1
  exact wpList_append_own_at w hgd s x t ho base e i z size bytes ht hi hz hsize hby hzs hsz v n xs hs hown ad m c news hx hl hc h1 h63 hbytes hbase (fun v' w' a1 a2 _ a4 => h v' w' a1 a2 a4)
theorem wpList_append_src0 {P : Program} {w : World} {ops : Array Oper} {rest : List Oper} {o : Oper} {a : Act} {Q : Exit → Act → World → Prop} (hgd : o.guard = none) (s x : Operand) (t : TypeId)
  (ho : o.op = .call { callee := .builtin .append, args := #[s, x], argTypes := #[t, t] })
  (e : TypeId) (i : TypeInfo) (z : Value) (size bytes : Nat) (ht : P.underlying t = some (.slice e)) (hi : P.info? e = some i) (hz : i.zero = some z)
  (hsize : i.size = size) (hby : i.bytes = bytes) (hzs : z.cells.size = size) (hsz : 0 < size)
  (b : Nat) (hs : a.eval s = .slice (some ⟨b, 0, none⟩) 0 0)
  (xv : Value) (m : Nat) (news : List Value) (hx : a.eval x = xv) (hsrc : SrcAt w size xv m news) (h1 : ∀ u ∈ news, u.oneCell' = true)
  (h63 : m ≤ maxLen) (hbytes : m * bytes ≤ 140737488355328)
  (hK1 : m = 0 → news = [] → wpList P ops Q rest (a.put o.dst (.slice (some ⟨b, 0, none⟩) 0 0)) w)
  (hK2 : ∀ v' w', w'.ownsRow w.heap.size e size v' m news → w.grownBy w' none → wpList P ops Q rest (a.put o.dst v') w') :
  wpList P ops Q (o :: rest) a w := by
 rcases hsrc with ⟨e1, e2, e3⟩ | ⟨ad, c, e1, hl, hc⟩
 ·subst e1; subst e2; subst e3
  refine wpList_plain hgd fun K hK => ?_
  have hr : (Builtin.append_ #[t, t] o.type #[.slice (some ⟨b, 0, none⟩) 0 0, .slice none 0 0]).run P w = .ok (.slice (some ⟨b, 0, none⟩) 0 0) w := by
   simp [Builtin.append_, run_underlying ht, sizeOf, typeInfo, hi, Builtin.lenOf, Builtin.firstCells, storeCells]
  unfold Oper.wp execOp
  simp only [ho, resolve, invoke, builtin, Sem.run_bind, Sem.run_pure, Result.andThen_ok, List.map_toArray, List.map_cons, List.map_nil, hs, hx, hr]
  exact hK _ _ (hK1 rfl rfl)
 ·subst e1
  refine wpList_append_arg w hgd s x t ho e i z size bytes ht hi hz hsize hby hzs hsz b 0 0 0 [] hs (by simp) (fun j u hj => by simp at hj) ad m c news hx hl hc h1 (fun h j hj => absurd hj (by rw [hl, show m = 0 by omega]; omega)) (by omega) (by simpa using hbytes) (fun h => ?_) (fun h v' w' a1 a2 => hK2 v' w' (by simpa using a1) a2)
  have hm : m = 0 := by omega
  have hnil : news = [] := List.eq_nil_of_length_eq_zero (by rw [hl, hm]; simp)
  have := hK1 hm hnil
  subst hm
  subst hnil
  exact this
def OwnInK (lo hi : Nat) (w : World) (e size : Nat) (v : Value) (n : Nat) (xs : List Value) : Prop := w.ownsRow lo e size v n xs ∧ ∀ g, v.ownBlock = some g → g < hi
theorem OwnInK.below {lo hi : Nat} {w w' : World} {e size : Nat} {v : Value} {n : Nat} {xs : List Value} (h : OwnInK lo hi w e size v n xs) (hb : Below w.heap.size w w') (hh : hi ≤ w.heap.size) : OwnInK lo hi w' e size v n xs :=
 ⟨own_below h.1 hb fun g hg => by have := h.2 g hg; omega, h.2⟩
theorem OwnInK.made {w w' : World} {e size : Nat} {v : Value} {n : Nat} {xs : List Value} (h : w'.ownsRow w.heap.size e size v n xs) : OwnInK w.heap.size w'.heap.size w' e size v n xs := ⟨h, fun g hg => (World.ownsRow.lt h g hg).2⟩
theorem src_pre {w : World} {B b n c : Nat} {rs : List RaceL} (h : RacesAt B w (.slice (some ⟨b, 0, none⟩) n c) rs) {m : Nat} (hm : m ≤ rs.length) (cc : Nat) : SrcAt w 4 (.slice (some ⟨b, 0, none⟩) m cc) m (racesC (rs.take m)) := by
 refine .inr ⟨⟨b, 0, none⟩, cc, rfl, by rw [racesC_length]; simp; omega, fun j u hj => World.ownsRow.cells h rfl j u ?_⟩
 have e : racesC rs = racesC (rs.take m) ++ racesC (rs.drop m) := by rw [← racesC_append, List.take_append_drop]
 rw [e, List.getElem?_append_left (List.getElem?_eq_some_iff.1 hj).1]; exact hj
theorem src_post {w : World} {B b n c : Nat} {rs : List RaceL} (h : RacesAt B w (.slice (some ⟨b, 0, none⟩) n c) rs) {m : Nat} (hm : m ≤ rs.length) (cc : Nat) : SrcAt w 4 (.slice (some ⟨b, m * 4, none⟩) (rs.length - m) cc) (rs.length - m) (racesC (rs.drop m)) := by
 refine .inr ⟨⟨b, m * 4, none⟩, cc, rfl, by rw [racesC_length]; simp, fun j u hj => ?_⟩
 have e : racesC rs = racesC (rs.take m) ++ racesC (rs.drop m) := by rw [← racesC_append, List.take_append_drop]
 have hl : (racesC (rs.take m)).length = m * 4 := by rw [racesC_length]; simp; omega
 have := World.ownsRow.cells h rfl (m * 4 + j) u (by rw [e, List.getElem?_append_right (by omega), hl, show m * 4 + j - m * 4 = j by omega]; exact hj)
 rw [Addr.add_lit] at this ⊢
 simpa [Nat.add_assoc] using this
theorem src_own {w : World} {B : Nat} {v : Value} {n : Nat} {xs : List Value} (h : w.ownsRow B 89 4 v n xs) (hn : 0 < n) : SrcAt w 4 v n xs := by
 obtain ⟨g, c, rfl⟩ := own_some h hn
 exact .inr ⟨⟨g, 0, none⟩, c, rfl, h.1, fun j u hj => World.ownsRow.cells h rfl j u hj⟩
def insVal (lv pre post : Value) (r : RaceL) (rs : List RaceL) (m : Nat) : Nat → Value → Nat → Nat → World → Prop
 | 0, v, lo, hi, w => v = .slice (some ⟨lo, 0, none⟩) 0 0 ∧ OwnInK lo hi w 89 4 v 0 []
 | 1, v, _, _, _ => v = lv
 | 2, v, _, _, _ => v = .int .i64 m
 | 3, v, _, _, _ => v = pre
 | 4, v, lo, hi, w => OwnInK lo hi w 89 4 v m (racesC (rs.take m))
 | 5, v, _, _, _ => v = .agg #[.int .i64 r.t, .int .i64 r.a, .int .i64 r.u, .int .i64 r.b]
 | 6, v, lo, hi, w => OwnInK lo hi w 89 4 v 1 r.v
 | 8, v, _, _, _ => v = lv
 | 9, v, _, _, _ => v = .int .i64 m
 | _, v, _, _, _ => v = post
theorem insVal_below (lv pre post : Value) (r : RaceL) (rs : List RaceL) (m : Nat) : ∀ i v lo hi (w w' : World), Below w.heap.size w w' → hi ≤ w.heap.size → insVal lv pre post r rs m i v lo hi w → insVal lv pre post r rs m i v lo hi w' := by
 intro i v lo hi w w' hb hh h
 match i, h with
 | 0, h => exact ⟨h.1, OwnInK.below h.2 hb hh⟩
 | 1, h => exact h
 | 2, h => exact h
 | 3, h => exact h
 | 4, h => exact OwnInK.below h hb hh
 | 5, h => exact h
 | 6, h => exact OwnInK.below h hb hh
 | 7, h => exact h
 | 8, h => exact h
 | 9, h => exact h
 | i + 10, h => exact h
def insPV (lv post : Value) (m : Nat) : Nat → Value → Prop
 | 8, v => v = lv
 | 9, v => v = .int .i64 m
 | 10, v => v = post
 | _, _ => True
def insPure : Nat → Bool
 | 8 => true
 | 9 => true
 | 10 => true
 | _ => false
theorem insPure_cases {i : Nat} (h : insPure i = true) : i = 8 ∨ i = 9 ∨ i = 10 := by
 unfold insPure at h
 split at h <;> simp_all
def insSrc : Nat → Option Nat
 | 4 => some 0
 | _ => none
theorem insSrc_cases {i j : Nat} (h : insSrc i = some j) : i = 4 ∧ j = 0 := by
 unfold insSrc at h
 split at h <;> simp_all
def insRR (B : Nat) (w0 : World) (r : RaceL) (rs : List RaceL) (m : Nat) : Nat → (Nat → Value) → World → Prop
 | 0, vs, W => Below B w0 W ∧ W.ownsRow B 89 4 (vs 7) (m + 1) (racesC (rs.take m ++ [r]))
 | _, vs, W => Below B w0 W ∧ W.ownsRow B 89 4 (vs 11) (m + 1 + (rs.length - m)) (racesC (rs.take m ++ [r] ++ rs.drop m))
theorem insRR_loc (B : Nat) (w0 : World) (r : RaceL) (rs : List RaceL) (m : Nat) : ∀ k vs i v w, insPure i = true → insRR B w0 r rs m k vs w → insRR B w0 r rs m k (upd vs i v) w := by
 intro k vs i v w hp h
 have hi := insPure_cases hp
 have e7 : upd vs i v 7 = vs 7 := upd_other _ _ (by omega)
 have e11 : upd vs i v 11 = vs 11 := upd_other _ _ (by omega)
 match k, h with
 | 0, h => exact ⟨h.1, by rw [e7]; exact h.2⟩
 | _ + 1, h => exact ⟨h.1, by rw [e11]; exact h.2⟩

set_option maxRecDepth 1000000 in
set_option maxHeartbeats 4000000 in
theorem addRace_some (b lc : Nat) (rs : List RaceL) (t i u k : Int) (w : World) (h : RacesAt 0 w (.slice (some ⟨b, 0, none⟩) rs.length lc) rs) (hn : rs.length ≤ 1000) :
  Calls Tryz.prog 23 #[.slice (some ⟨b, 0, none⟩) rs.length lc, .int .i64 t, .int .i64 i, .int .i64 u, .int .i64 k] w fun e w' => (∃ v', e = .returned v' ∧ RacesAt 0 w' v' (insR rs (mkRace t i u k))) ∧ Below w.heap.size w w' := by
 obtain ⟨i9, hi9, hz9, hs9, hb9⟩ := info_parts (show (Tryz.prog.info? 89).map (fun i => (i.zero, i.size, i.bytes)) = some (some (.agg #[.int .i64 0, .int .i64 0, .int .i64 0, .int .i64 0]), 4, 32) by kernel_rfl)
 have hH : Hid (∀ W, Below w.heap.size w W → RacesAt 0 W (.slice (some ⟨b, 0, none⟩) rs.length lc) rs) := fun W hW => h.below hW
 have hcap : rs.length ≤ lc := own_cap h
 obtain ⟨r, hr⟩ : ∃ r, r = mkRace t i u k := ⟨_, rfl⟩
 rw [← hr]
 have ls : Hid (∀ (q : RaceL) W, Calls Tryz.prog 45 #[.agg #[.int .i64 q.t, .int .i64 q.a, .int .i64 q.u, .int .i64 q.b], .agg #[.int .i64 r.t, .int .i64 r.a, .int .i64 r.u, .int .i64 r.b]] W fun e w' => e = .returned (.bool (lessR q r)) ∧ Below W.heap.size W w') := fun q W => less_calls q r W
 go_enter Tryz.func23, Tryz.ntmps23
 by_cases hut : u < t
 ·go_upto_region 4 with fail
  have hRc : Hid (RcW w (w.alloc (.cells #[.int .i64 u, .int .i64 k, .int .i64 t, .int .i64 i] 89)) w.heap.size r) := by
   have hg := rangeAt_heap (heap_alloc_new w (.cells #[.int .i64 u, .int .i64 k, .int .i64 t, .int .i64 i] 89))
   have hr2 : r = ⟨u, k, t, i⟩ := by rw [hr]; simp [mkRace, hut]
   rw [hr2]
   exact ⟨below_1 _ _, Nat.le_refl _, by simp, hg 0 _ rfl, hg 1 _ rfl, hg 2 _ rfl, hg 3 _ rfl⟩
  have hp0 : Hid (0 + ((rs.drop 0).takeWhile fun q => lessR q r).length = posR rs r) := by show _ = _; simp [posR]
  generalize w.alloc (.cells #[.int .i64 u, .int .i64 k, .int .i64 t, .int .i64 i] 89) = WA at *
  clear hr h
  go_wp2
  go_loopw [12] (fun iv wr => ∃ m : Nat, m ≤ rs.length ∧ iv = .int .i64 m ∧ Hid (RcW w wr w.heap.size r) ∧ Hid (m + ((rs.drop m).takeWhile fun q => lessR q r).length = posR rs r)) (fun iv _ => rs.length - (intOf iv).toNat)
  case atStart => exact ⟨0, Nat.zero_le _, rfl, hRc, hp0⟩
  case round =>
   obtain ⟨m, hm, rfl, hW, hp⟩ := hrel
   clear hRc hp0
   obtain ⟨hbW, hlo, hhi, c0, c1, c2, c3⟩ := hW.out
   have k0 := cell_regrown c0
   have k1 := cell_regrown c1
   have k2 := cell_regrown c2
   have k3 := cell_regrown c3
   by_cases hlt : m < rs.length
   ·have hlt' : (m : Int) < rs.length := by omega
    have hRA := hH.out wr hbW
    obtain ⟨d0, d1, d2, d3⟩ := RacesAt.cells hRA hlt
    have hin1 := takeWhile_drop_pos (r := r) hlt
    have hin2 := takeWhile_drop_end (r := r) hlt
    have hi1H : Hid (lessR rs[m] r = true → m + 1 + ((rs.drop (m + 1)).takeWhile fun q => lessR q r).length = posR rs r) := fun q => hin1 q hp.out
    have hi2H : Hid (lessR rs[m] r = false → posR rs r = m) := fun q => hin2 q hp.out
    have heq : Hid (rs[m]? = some rs[m]) := by show _ = _; simp [hlt]
    obtain ⟨x, hx⟩ : ∃ x, x = rs[m] := ⟨_, rfl⟩
    rw [← hx] at d0 d1 d2 d3 hi1H hi2H heq
    have e0 := cell_regrown d0
    have e1 := cell_regrown d1
    have e2 := cell_regrown d2
    have e3 := cell_regrown d3
    have cL : ∀ d os, Calls Tryz.prog 45 #[.agg #[.int .i64 x.t, .int .i64 x.a, .int .i64 x.u, .int .i64 x.b], .agg #[.int .i64 r.t, .int .i64 r.a, .int .i64 r.u, .int .i64 r.b]] (Sort.grow (redrawn wr d) os) fun e w'' => e = .returned (.bool (lessR x r)) ∧ ∃ p : Regrown, w'' = Sort.grow (redrawn wr p.d) p.os := fun d os => Calls.regrown_of (ls.out x _)
    generalize lessR x r = lb at cL hi1H hi2H
    clear hin1 hin2 hx
    cases lb with
    | true =>
     go_wp2_with fail
     refine wp_region_quiet_below (by kernel_rfl) (by kernel_rfl) ?_
     repeat (first | go_big_quiet_step (exact cL _ _) | quiet_step (exact cL _ _))
     refine wpQuiet_nil ?_
     intro _ hw'
     obtain ⟨⟨dq, osq⟩, hw''⟩ := hw'
     subst hw''
     have hRV : Hid (RcW w (Sort.grow (redrawn wr dq) osq) w.heap.size r) := hW.out.on (below_regrown wr dq osq)
     clear k0 k1 k2 k3 e0 e1 e2 e3 cL c0 c1 c2 c3 d0 d1 d2 d3 hRA
     generalize Sort.grow (redrawn wr dq) osq = V at *
     go_wp2
     go_roundw
     case rel => exact ⟨m + 1, by omega, by go_num, hRV, hi1H.out (by trivial)⟩
     case measure => simp [intOf]; omega
    | false =>
     have hpm : Hid (posR rs r = m) := hi2H.out (by trivial)
     go_wp2_with fail
     refine wp_region_quiet_below (by kernel_rfl) (by kernel_rfl) ?_
     repeat (first | go_big_quiet_step (exact cL _ _) | quiet_step (exact cL _ _))
     refine wpQuiet_nil ?_
     intro _ hw'
     obtain ⟨⟨dq, osq⟩, hw''⟩ := hw'
     subst hw''
     have hRV : Hid (RcW w (Sort.grow (redrawn wr dq) osq) w.heap.size r) := hW.out.on (below_regrown wr dq osq)
     clear k0 k1 k2 k3 e0 e1 e2 e3 cL c0 c1 c2 c3 d0 d1 d2 d3 hRA
     generalize Sort.grow (redrawn wr dq) osq = V at *
     obtain ⟨hbV, hloV, hhiV, c0, c1, c2, c3⟩ := hRV.out
     obtain ⟨d0, d1, d2, d3⟩ := RacesAt.cells (hH.out V hbV) hlt
     have hx2 : Hid (rs[m] = x) := by
      have := heq.out
      rw [List.getElem?_eq_getElem hlt] at this
      exact Option.some.inj this
     rw [hx2.out] at d0 d1 d2 d3
     by_cases hxr : x = r
     ·subst hxr
      have hins : Hid (insR rs x = rs) := by show _ = _; unfold insR; rw [hpm.out, heq.out]; simp
      go_wp2_with fail
      go_quiet (fail)
      go_wp2
      go_ret
      exact ⟨⟨_, rfl, by rw [hins.out]; exact (hH.out V hbV).below (below_drewN (Below.refl _ _) _)⟩, below_drewN hbV _⟩
     ·have hxn : ¬ (x.t = r.t ∧ x.a = r.a ∧ x.u = r.u ∧ x.b = r.b) := fun ⟨q1, q2, q3, q4⟩ => hxr (by cases x; cases r; simp_all)
      go_wp2_with fail
      refine wp_region_quiet_lit (by kernel_rfl) (by kernel_rfl) ?_
      repeat (first | go_big_quiet_step (fail) | quiet_step (fail))
      refine wpQuiet_step (fun K hK => ?_)
      go_simp
      refine ⟨.bool false, fun a => ?_, hK _ ?_⟩
      ·by_cases q1 : x.t = r.t
       ·by_cases q2 : x.a = r.a
        ·by_cases q3 : x.u = r.u
         ·by_cases q4 : x.b = r.b
          ·exact absurd ⟨q1, q2, q3, q4⟩ hxn
          ·simp [q1, q2, q3, q4]
         ·simp [q1, q2, q3]
        ·simp [q1, q2]
       ·simp [q1]
      clear hK K
      repeat (first | go_big_quiet_step (fail) | quiet_step (fail))
      refine wpQuiet_nil ?_
      intro _ hw'
      obtain ⟨nq, hw''⟩ := hw'
      subst hw''
      go_wp2_with fail
      have hRV2 : Hid (RcW w (V.drewN nq) w.heap.size r) := hRV.out.on (below_drewN (Below.refl _ _) _)
      have hins : Hid (insR rs r = rs.take m ++ r :: rs.drop m) := by
       show _ = _
       unfold insR
       rw [hpm.out, heq.out, if_neg (fun q => hxr (Option.some.inj q))]
      generalize V.drewN nq = V2 at *
      have hRA2 : Hid (∀ W, Below V2.heap.size V2 W → RacesAt 0 W (.slice (some ⟨b, 0, none⟩) rs.length lc) rs) := fun W hW => hH.out W (below_on hRV2.out.hb hW)
      clear c0 c1 c2 c3 d0 d1 d2 d3 hxn
      have hRc2 : Hid (∀ W, Below V2.heap.size V2 W → RcW w W w.heap.size r) := fun W hW => hRV2.out.on hW
      have hsp : Hid (∀ W, Below V2.heap.size V2 W → SrcAt W 4 (.slice (some ⟨b, 0, none⟩) m lc) m (racesC (rs.take m))) := fun W hW => src_pre (hRA2.out W hW) (by omega) _
      have hsq : Hid (∀ W, Below V2.heap.size V2 W → SrcAt W 4 (.slice (some ⟨b, m * 4, none⟩) (rs.length - m) (lc - m)) (rs.length - m) (racesC (rs.drop m))) := fun W hW => src_post (hRA2.out W hW) (by omega) _
      refine wp_region_mixed (by kernel_rfl) (fun vs => { tmps := #[Value.slice (some { block := b, off := 0 }) rs.length lc, Value.int IntKind.i64 t, Value.int IntKind.i64 i, Value.int IntKind.i64 u, Value.int IntKind.i64 k, undef, undef, undef, undef, undef, vs 12, Value.pointer (some { block := w.heap.size, off := 0 }), Value.int IntKind.i64 ↑m, Value.int IntKind.i64 t, Value.int IntKind.i64 i, Value.int IntKind.i64 u, Value.int IntKind.i64 k, Value.agg #[Value.int IntKind.i64 t, Value.int IntKind.i64 i, Value.int IntKind.i64 u, Value.int IntKind.i64 k], Value.int IntKind.i64 u, Value.int IntKind.i64 t, Value.bool true, Value.int IntKind.i64 u, Value.int IntKind.i64 k, Value.int IntKind.i64 t, Value.int IntKind.i64 i, Value.agg #[Value.int IntKind.i64 u, Value.int IntKind.i64 k, Value.int IntKind.i64 t, Value.int IntKind.i64 i], Value.int IntKind.i64 ↑m, Value.slice (some { block := b, off := 0 }) rs.length lc, Value.int IntKind.i64 ↑rs.length, Value.bool true, Value.bool true, Value.slice (some { block := b, off := 0 }) rs.length lc, Value.int IntKind.i64 ↑m, Value.pointer (some { block := b, off := m * 4 }), Value.agg #[Value.int IntKind.i64 x.t, Value.int IntKind.i64 x.a, Value.int IntKind.i64 x.u, Value.int IntKind.i64 x.b], Value.agg #[Value.int IntKind.i64 r.t, Value.int IntKind.i64 r.a, Value.int IntKind.i64 r.u, Value.int IntKind.i64 r.b], Value.bool false, Value.bool false, u38, u39, Value.int IntKind.i64 ↑m, Value.slice (some { block := b, off := 0 }) rs.length lc, Value.int IntKind.i64 ↑rs.length, Value.bool true, Value.bool true, Value.slice (some { block := b, off := 0 }) rs.length lc, Value.int IntKind.i64 ↑m, Value.pointer (some { block := b, off := m * 4 }), Value.agg #[Value.int IntKind.i64 x.t, Value.int IntKind.i64 x.a, Value.int IntKind.i64 x.u, Value.int IntKind.i64 x.b], Value.agg #[Value.int IntKind.i64 r.t, Value.int IntKind.i64 r.a, Value.int IntKind.i64 r.u, Value.int IntKind.i64 r.b], Value.bool false, Value.bool false, undef, vs 0, vs 1, vs 2, vs 3, vs 4, vs 5, vs 6, vs 7, vs 8, vs 9, vs 10, vs 11], defers := [] }) (insVal (.slice (some ⟨b, 0, none⟩) rs.length lc) (.slice (some ⟨b, 0, none⟩) m lc) (.slice (some ⟨b, m * 4, none⟩) (rs.length - m) (lc - m)) r rs m) insSrc (fun i i' j h h' => by have := insSrc_cases h; have := insSrc_cases h'; omega) (fun i j h => by have := insSrc_cases h; rw [this.2]; rfl) 7 [11] insPure (insPV (.slice (some ⟨b, 0, none⟩) rs.length lc) (.slice (some ⟨b, m * 4, none⟩) (rs.length - m) (lc - m)) m) (insRR V2.heap.size V2 r rs m) (fun i => if i = 12 then Value.slice none 0 0 else undef) rfl (by kernel_rfl) (insVal_below _ _ _ r rs m) (fun i v lo hi w hp h => by rcases insPure_cases hp with rfl | rfl | rfl <;> exact h) (insRR_loc _ _ r rs m) (allAt_all ⟨?_, ?_, ?_, ?_, ?_, ?_, ?_, ?_, ?_, ?_, ?_, ?_, ?_, trivial⟩) (allAt_all ⟨?_, ?_, ?_, ?_, ?_, ?_, ?_, ?_, ?_, ?_, ?_, ?_, ?_, trivial⟩) ?_ ?_ ?_
      case refine_1 =>
       intro _ _ vs lo hi W hB hv
       go_wp2
       exact RegPost.own _ rfl (below_1 _ _) ⟨rfl, OwnInK.made (World.ownsRow_made W #[] 0 (Nat.le_refl _) (by unfold maxLen; omega) rfl)⟩
      case refine_2 =>
       intro _ _ vs lo hi W hB hv
       go_wp2
       exact RegPost.own _ rfl (Below.refl _ _) rfl
      case refine_3 =>
       intro _ _ vs lo hi W hB hv
       go_wp2
       exact RegPost.own _ rfl (Below.refl _ _) rfl
      case refine_4 =>
       intro _ _ vs lo hi W hB hv
       have e1 : vs 1 = .slice (some ⟨b, 0, none⟩) rs.length lc := (hv ⟨1, .data⟩ (by simp) rfl).1
       have e2 : vs 2 = .int .i64 m := (hv ⟨2, .data⟩ (by simp) rfl).1
       simp only [e1, e2]
       go_wp2
       exact RegPost.own (.slice (some ⟨b, 0, none⟩) m lc) (by rw [← e1, ← e2]; rfl) (Below.refl _ _) rfl
      case refine_5 =>
       intro _ _ vs lo hi W hB hv
       obtain ⟨⟨q0, q1⟩, _, _, _⟩ := hv ⟨0, .data⟩ (by simp) rfl
       have q0 : vs 0 = .slice (some ⟨lo 0, 0, none⟩) 0 0 := q0
       have q1 : OwnInK (lo 0) (hi 0) W 89 4 (vs 0) 0 [] := q1
       have e3 : vs 3 = .slice (some ⟨b, 0, none⟩) m lc := (hv ⟨3, .data⟩ (by simp) rfl).1
       refine wpList_append_src0 rfl (.tmp 53) (.tmp 56) 28 rfl 89 i9 (.agg #[.int .i64 0, .int .i64 0, .int .i64 0, .int .i64 0]) 4 32 Tryz.underlying28 hi9 hz9 hs9 hb9 rfl (by omega) (lo 0) q0 (vs 3) m (racesC (rs.take m)) rfl (by rw [e3]; exact hsp.out W hB) (racesC_one' _) (by unfold maxLen; omega) (by omega) (fun m0 n0 => ?_) (fun v1 w1 hown hgrow => ?_)
       ·refine wpList_nil ?_
        refine RegPost.take (.slice (some ⟨lo 0, 0, none⟩) 0 0) ⟨0, .data⟩ rfl (by simp) rfl rfl (Below.refl _ _) ?_
        show OwnInK (lo 0) (hi 0) W 89 4 _ m (racesC (rs.take m))
        rw [n0, m0, ← q0]
        exact q1
       ·refine wpList_nil ?_
        exact RegPost.own v1 rfl ((Below.refl _ _).grown hgrow (Nat.le_refl _) (fun j hj => by cases hj)) (OwnInK.made hown)
      case refine_6 =>
       intro _ _ vs lo hi W hB hv
       obtain ⟨_, _, _, b0, b1', b2, b3⟩ := hRc2.out W hB
       go_wp2
       exact RegPost.own (.agg #[.int .i64 r.t, .int .i64 r.a, .int .i64 r.u, .int .i64 r.b]) rfl (Below.refl _ _) rfl
      case refine_7 =>
       intro _ _ vs lo hi W hB hv
       have e5 : vs 5 = .agg #[.int .i64 r.t, .int .i64 r.a, .int .i64 r.u, .int .i64 r.b] := (hv ⟨5, .data⟩ (by simp) rfl).1
       simp only [e5]
       go_wp2
       exact RegPost.own (.slice (some ⟨W.heap.size, 0, none⟩) 1 1) (by rw [← e5]; rfl) (below_1 _ _) (OwnInK.made (World.ownsRow_lit W #[.int .i64 r.t, .int .i64 r.a, .int .i64 r.u, .int .i64 r.b] 1 (Nat.le_refl _) (by unfold maxLen; omega) rfl))
      case refine_8 => exact fun h => absurd (by decide) h
      case refine_9 =>
       intro _ _ vs lo hi W hB hv
       go_wp2
       exact RegPost.own _ rfl (Below.refl _ _) rfl
      case refine_10 =>
       intro _ _ vs lo hi W hB hv
       go_wp2
       exact RegPost.own _ rfl (Below.refl _ _) rfl
      case refine_11 =>
       intro _ _ vs lo hi W hB hv
       have e8 : vs 8 = .slice (some ⟨b, 0, none⟩) rs.length lc := (hv ⟨8, .data⟩ (by simp) rfl).1
       have e9 : vs 9 = .int .i64 m := (hv ⟨9, .data⟩ (by simp) rfl).1
       simp only [e8, e9]
       go_wp2
       exact RegPost.own (.slice (some ⟨b, m * 4, none⟩) (rs.length - m) (lc - m)) (by rw [← e8, ← e9]; rfl) (Below.refl _ _) rfl
      case refine_12 => exact fun h => absurd (by decide) h
      case refine_13 => exact fun _ h => absurd h (by simp)
      case refine_14 => exact fun h => absurd h (by decide)
      case refine_15 => exact fun h => absurd h (by decide)
      case refine_16 => exact fun h => absurd h (by decide)
      case refine_17 => exact fun h => absurd h (by decide)
      case refine_18 => exact fun h => absurd h (by decide)
      case refine_19 => exact fun h => absurd h (by decide)
      case refine_20 => exact fun h => absurd h (by decide)
      case refine_21 => exact fun h => absurd h (by decide)
      case refine_22 =>
       intro _ _ q vs W hR hv
       go_wp2
       exact PurePost.mk' (.slice (some ⟨b, 0, none⟩) rs.length lc) rfl rfl
      case refine_23 =>
       intro _ _ q vs W hR hv
       go_wp2
       exact PurePost.mk' (.int .i64 m) rfl rfl
      case refine_24 =>
       intro _ _ q vs W hR hv
       have e8 : vs 8 = .slice (some ⟨b, 0, none⟩) rs.length lc := hv ⟨8, .data⟩ (by simp) rfl rfl
       have e9 : vs 9 = .int .i64 m := hv ⟨9, .data⟩ (by simp) rfl rfl
       simp only [e8, e9]
       go_wp2
       exact PurePost.mk' (.slice (some ⟨b, m * 4, none⟩) (rs.length - m) (lc - m)) (by rw [← e8, ← e9]; rfl) rfl
      case refine_25 => exact fun h => absurd h (by decide)
      case refine_26 => exact fun h => absurd h (by decide)
      case refine_27 =>
       intro o ho vs lo hi W hB hv
       obtain rfl := Option.some.inj ho
       obtain ⟨h4, g4, _, _⟩ := hv ⟨4, .data⟩ (by simp) rfl
       obtain ⟨h6, g6, _, _⟩ := hv ⟨6, .data⟩ (by simp) rfl
       have h4 : W.ownsRow (lo 4) 89 4 (vs 4) m (racesC (rs.take m)) := h4.1
       have h6 : W.ownsRow (lo 6) 89 4 (vs 6) 1 r.v := h6.1
       refine wpList_append_src rfl (.tmp 57) (.tmp 59) 28 rfl V2.heap.size 89 i9 (.agg #[.int .i64 0, .int .i64 0, .int .i64 0, .int .i64 0]) 4 32 Tryz.underlying28 hi9 hz9 hs9 hb9 rfl (by omega) (vs 4) m (racesC (rs.take m)) rfl (own_mono h4 g4) (vs 6) 1 r.v rfl (src_own h6 (by omega)) (by rw [← racesC_one]; exact racesC_one' _) (by unfold maxLen; omega) (by omega) hB.size ?_
       intro v' w' hown hgrow hat
       refine wpList_nil ?_
       refine ⟨v', rfl, hB.grown hgrow hB.size (fun j hj => (World.ownsRow.lt (own_mono h4 g4) j hj).1), ?_⟩
       rw [upd_same, racesC_append, racesC_one]
       exact hown
      case refine_28 =>
       intro q c o hq ho vs W hR hv
       match q, hq with
       | 0, hq =>
        obtain rfl : c = 11 := by simpa using hq.symm
        obtain rfl := Option.some.inj ho
        have e10 : vs 10 = .slice (some ⟨b, m * 4, none⟩) (rs.length - m) (lc - m) := hv ⟨10, .data⟩ (by simp) rfl rfl
        obtain ⟨hB, hown7⟩ := hR
        refine wpList_append_src rfl (.tmp 60) (.tmp 63) 28 rfl V2.heap.size 89 i9 (.agg #[.int .i64 0, .int .i64 0, .int .i64 0, .int .i64 0]) 4 32 Tryz.underlying28 hi9 hz9 hs9 hb9 rfl (by omega) (vs 7) (m + 1) _ rfl hown7 (vs 10) (rs.length - m) (racesC (rs.drop m)) rfl (by rw [e10]; exact hsq.out W hB) (racesC_one' _) (by unfold maxLen; omega) (by omega) hB.size ?_
        intro v' w' hown hgrow hat
        refine wpList_nil ?_
        refine ChainPost.mk' v' rfl ⟨hB.grown hgrow hB.size (fun j hj => (World.ownsRow.lt hown7 j hj).1), ?_⟩
        rw [upd_same, racesC_append]
        exact hown
       | q + 1, hq => simp at hq
      case refine_29 =>
       intro o ho vs W hR hv
       obtain rfl := Option.some.inj ho
       obtain ⟨hB, hown⟩ := hR
       have hfin : Hid (RacesAt 0 W (vs 11) (insR rs r)) := by
        show W.ownsRow _ _ _ _ _ _
        rw [hins.out]
        have e : (rs.take m ++ [r] ++ rs.drop m).length = m + 1 + (rs.length - m) := by simp; omega
        rw [show (rs.take m ++ r :: rs.drop m) = rs.take m ++ [r] ++ rs.drop m by simp, e]
        exact own_mono hown (Nat.zero_le _)
       have hfb : Hid (Below w.heap.size w W) := below_on hRV2.out.hb hB
       clear hown hB
       go_wp2
       go_ret
       exact ⟨⟨_, rfl, hfin.out⟩, hfb.out⟩
   ·have hme : m = rs.length := by omega
    have hge : ¬ ((m : Int) < rs.length) := by omega
    have hpm : Hid (posR rs r = m) := by
     have := hp.out
     rw [List.drop_eq_nil_of_le (by omega)] at this
     show _ = _
     simpa using this.symm
    have hins : Hid (insR rs r = rs.take m ++ r :: rs.drop m) := by
     show _ = _
     unfold insR
     rw [hpm.out, List.getElem?_eq_none (by omega), if_neg (by simp)]
    have hmle : m ≤ rs.length := by omega
    clear hme k0 k1 k2 k3 c0 c1 c2 c3
    go_wp2_with fail
    go_quiet (fail)
    have hRV : Hid (RcW w (wr.drewN nq) w.heap.size r) := hW.out.on (below_drewN (Below.refl _ _) _)
    generalize wr.drewN nq = V at *
    go_wp2_with fail
    go_quiet (fail)
    have hRV2 : Hid (RcW w (V.drewN nq) w.heap.size r) := hRV.out.on (below_drewN (Below.refl _ _) _)
    generalize V.drewN nq = V2 at *
    have hRA2 : Hid (∀ W, Below V2.heap.size V2 W → RacesAt 0 W (.slice (some ⟨b, 0, none⟩) rs.length lc) rs) := fun W hW => hH.out W (below_on hRV2.out.hb hW)
    by_cases hml : lc = m
    ·subst lc
     go_wp2_with fail
     have hRc2 : Hid (∀ W, Below V2.heap.size V2 W → RcW w W w.heap.size r) := fun W hW => hRV2.out.on hW
     have hsp : Hid (∀ W, Below V2.heap.size V2 W → SrcAt W 4 (.slice (some ⟨b, 0, none⟩) m m) m (racesC (rs.take m))) := fun W hW => src_pre (hRA2.out W hW) (by omega) _
     have hsq : Hid (∀ W, Below V2.heap.size V2 W → SrcAt W 4 (.slice (some ⟨b, 0, none⟩) 0 0) (rs.length - m) (racesC (rs.drop m))) := fun W hW => (by rw [show rs.length - m = 0 by omega, List.drop_eq_nil_of_le (by omega)]; exact .inr ⟨⟨b, 0, none⟩, 0, rfl, rfl, fun j u hj => by simp [racesC] at hj⟩)
     refine wp_region_mixed (by kernel_rfl) (fun vs => { tmps := #[Value.slice (some { block := b, off := 0 }) rs.length m, Value.int IntKind.i64 t, Value.int IntKind.i64 i, Value.int IntKind.i64 u, Value.int IntKind.i64 k, undef, undef, undef, undef, undef, vs 12, Value.pointer (some { block := w.heap.size, off := 0 }), Value.int IntKind.i64 ↑m, Value.int IntKind.i64 t, Value.int IntKind.i64 i, Value.int IntKind.i64 u, Value.int IntKind.i64 k, Value.agg #[Value.int IntKind.i64 t, Value.int IntKind.i64 i, Value.int IntKind.i64 u, Value.int IntKind.i64 k], Value.int IntKind.i64 u, Value.int IntKind.i64 t, Value.bool true, Value.int IntKind.i64 u, Value.int IntKind.i64 k, Value.int IntKind.i64 t, Value.int IntKind.i64 i, Value.agg #[Value.int IntKind.i64 u, Value.int IntKind.i64 k, Value.int IntKind.i64 t, Value.int IntKind.i64 i], Value.int IntKind.i64 ↑m, Value.slice (some { block := b, off := 0 }) rs.length m, Value.int IntKind.i64 ↑rs.length, Value.bool false, Value.bool false, undef, undef, undef, undef, undef, undef, Value.bool false, u38, u39, Value.int IntKind.i64 ↑m, Value.slice (some { block := b, off := 0 }) rs.length m, Value.int IntKind.i64 ↑rs.length, Value.bool false, Value.bool false, undef, undef, undef, undef, undef, undef, Value.bool false, undef, vs 0, vs 1, vs 2, vs 3, vs 4, vs 5, vs 6, vs 7, vs 8, vs 9, vs 10, vs 11], defers := [] }) (insVal (.slice (some ⟨b, 0, none⟩) rs.length m) (.slice (some ⟨b, 0, none⟩) m m) (.slice (some ⟨b, 0, none⟩) 0 0) r rs m) insSrc (fun i i' j h h' => by have := insSrc_cases h; have := insSrc_cases h'; omega) (fun i j h => by have := insSrc_cases h; rw [this.2]; rfl) 7 [11] insPure (insPV (.slice (some ⟨b, 0, none⟩) rs.length m) (.slice (some ⟨b, 0, none⟩) 0 0) m) (insRR V2.heap.size V2 r rs m) (fun i => if i = 12 then Value.slice none 0 0 else undef) rfl (by kernel_rfl) (insVal_below _ _ _ r rs m) (fun i v lo hi w hp h => by rcases insPure_cases hp with rfl | rfl | rfl <;> exact h) (insRR_loc _ _ r rs m) (allAt_all ⟨?_, ?_, ?_, ?_, ?_, ?_, ?_, ?_, ?_, ?_, ?_, ?_, ?_, trivial⟩) (allAt_all ⟨?_, ?_, ?_, ?_, ?_, ?_, ?_, ?_, ?_, ?_, ?_, ?_, ?_, trivial⟩) ?_ ?_ ?_
     case refine_1 =>
      intro _ _ vs lo hi W hB hv
      go_wp2
      exact RegPost.own _ rfl (below_1 _ _) ⟨rfl, OwnInK.made (World.ownsRow_made W #[] 0 (Nat.le_refl _) (by unfold maxLen; omega) rfl)⟩
     case refine_2 =>
      intro _ _ vs lo hi W hB hv
      go_wp2
      exact RegPost.own _ rfl (Below.refl _ _) rfl
     case refine_3 =>
      intro _ _ vs lo hi W hB hv
      go_wp2
      exact RegPost.own _ rfl (Below.refl _ _) rfl
     case refine_4 =>
      intro _ _ vs lo hi W hB hv
      have e1 : vs 1 = .slice (some ⟨b, 0, none⟩) rs.length m := (hv ⟨1, .data⟩ (by simp) rfl).1
      have e2 : vs 2 = .int .i64 m := (hv ⟨2, .data⟩ (by simp) rfl).1
      simp only [e1, e2]
      go_wp2
      exact RegPost.own (.slice (some ⟨b, 0, none⟩) m m) (by rw [← e1, ← e2]; rfl) (Below.refl _ _) rfl
     case refine_5 =>
      intro _ _ vs lo hi W hB hv
      obtain ⟨⟨q0, q1⟩, _, _, _⟩ := hv ⟨0, .data⟩ (by simp) rfl
      have q0 : vs 0 = .slice (some ⟨lo 0, 0, none⟩) 0 0 := q0
      have q1 : OwnInK (lo 0) (hi 0) W 89 4 (vs 0) 0 [] := q1
      have e3 : vs 3 = .slice (some ⟨b, 0, none⟩) m m := (hv ⟨3, .data⟩ (by simp) rfl).1
      refine wpList_append_src0 rfl (.tmp 53) (.tmp 56) 28 rfl 89 i9 (.agg #[.int .i64 0, .int .i64 0, .int .i64 0, .int .i64 0]) 4 32 Tryz.underlying28 hi9 hz9 hs9 hb9 rfl (by omega) (lo 0) q0 (vs 3) m (racesC (rs.take m)) rfl (by rw [e3]; exact hsp.out W hB) (racesC_one' _) (by unfold maxLen; omega) (by omega) (fun m0 n0 => ?_) (fun v1 w1 hown hgrow => ?_)
      ·refine wpList_nil ?_
       refine RegPost.take (.slice (some ⟨lo 0, 0, none⟩) 0 0) ⟨0, .data⟩ rfl (by simp) rfl rfl (Below.refl _ _) ?_
       show OwnInK (lo 0) (hi 0) W 89 4 _ m (racesC (rs.take m))
       rw [n0, m0, ← q0]
       exact q1
      ·refine wpList_nil ?_
       exact RegPost.own v1 rfl ((Below.refl _ _).grown hgrow (Nat.le_refl _) (fun j hj => by cases hj)) (OwnInK.made hown)
     case refine_6 =>
      intro _ _ vs lo hi W hB hv
      obtain ⟨_, _, _, b0, b1', b2, b3⟩ := hRc2.out W hB
      go_wp2
      exact RegPost.own (.agg #[.int .i64 r.t, .int .i64 r.a, .int .i64 r.u, .int .i64 r.b]) rfl (Below.refl _ _) rfl
     case refine_7 =>
      intro _ _ vs lo hi W hB hv
      have e5 : vs 5 = .agg #[.int .i64 r.t, .int .i64 r.a, .int .i64 r.u, .int .i64 r.b] := (hv ⟨5, .data⟩ (by simp) rfl).1
      simp only [e5]
      go_wp2
      exact RegPost.own (.slice (some ⟨W.heap.size, 0, none⟩) 1 1) (by rw [← e5]; rfl) (below_1 _ _) (OwnInK.made (World.ownsRow_lit W #[.int .i64 r.t, .int .i64 r.a, .int .i64 r.u, .int .i64 r.b] 1 (Nat.le_refl _) (by unfold maxLen; omega) rfl))
     case refine_8 => exact fun h => absurd (by decide) h
     case refine_9 =>
      intro _ _ vs lo hi W hB hv
      go_wp2
      exact RegPost.own _ rfl (Below.refl _ _) rfl
     case refine_10 =>
      intro _ _ vs lo hi W hB hv
      go_wp2
      exact RegPost.own _ rfl (Below.refl _ _) rfl
     case refine_11 =>
      intro _ _ vs lo hi W hB hv
      have e8 : vs 8 = .slice (some ⟨b, 0, none⟩) rs.length m := (hv ⟨8, .data⟩ (by simp) rfl).1
      have e9 : vs 9 = .int .i64 m := (hv ⟨9, .data⟩ (by simp) rfl).1
      simp only [e8, e9]
      go_wp2
      exact RegPost.own (.slice (some ⟨b, 0, none⟩) 0 0) (by rw [← e8, ← e9]; rfl) (Below.refl _ _) rfl
     case refine_12 => exact fun h => absurd (by decide) h
     case refine_13 => exact fun _ h => absurd h (by simp)
     case refine_14 => exact fun h => absurd h (by decide)
     case refine_15 => exact fun h => absurd h (by decide)
     case refine_16 => exact fun h => absurd h (by decide)
     case refine_17 => exact fun h => absurd h (by decide)
     case refine_18 => exact fun h => absurd h (by decide)
     case refine_19 => exact fun h => absurd h (by decide)
     case refine_20 => exact fun h => absurd h (by decide)
     case refine_21 => exact fun h => absurd h (by decide)
     case refine_22 =>
      intro _ _ q vs W hR hv
      go_wp2
      exact PurePost.mk' (.slice (some ⟨b, 0, none⟩) rs.length m) rfl rfl
     case refine_23 =>
      intro _ _ q vs W hR hv
      go_wp2
      exact PurePost.mk' (.int .i64 m) rfl rfl
     case refine_24 =>
      intro _ _ q vs W hR hv
      have e8 : vs 8 = .slice (some ⟨b, 0, none⟩) rs.length m := hv ⟨8, .data⟩ (by simp) rfl rfl
      have e9 : vs 9 = .int .i64 m := hv ⟨9, .data⟩ (by simp) rfl rfl
      simp only [e8, e9]
      go_wp2
      exact PurePost.mk' (.slice (some ⟨b, 0, none⟩) 0 0) (by rw [← e8, ← e9]; rfl) rfl
     case refine_25 => exact fun h => absurd h (by decide)
     case refine_26 => exact fun h => absurd h (by decide)
     case refine_27 =>
      intro o ho vs lo hi W hB hv
      obtain rfl := Option.some.inj ho
      obtain ⟨h4, g4, _, _⟩ := hv ⟨4, .data⟩ (by simp) rfl
      obtain ⟨h6, g6, _, _⟩ := hv ⟨6, .data⟩ (by simp) rfl
      have h4 : W.ownsRow (lo 4) 89 4 (vs 4) m (racesC (rs.take m)) := h4.1
      have h6 : W.ownsRow (lo 6) 89 4 (vs 6) 1 r.v := h6.1
      refine wpList_append_src rfl (.tmp 57) (.tmp 59) 28 rfl V2.heap.size 89 i9 (.agg #[.int .i64 0, .int .i64 0, .int .i64 0, .int .i64 0]) 4 32 Tryz.underlying28 hi9 hz9 hs9 hb9 rfl (by omega) (vs 4) m (racesC (rs.take m)) rfl (own_mono h4 g4) (vs 6) 1 r.v rfl (src_own h6 (by omega)) (by rw [← racesC_one]; exact racesC_one' _) (by unfold maxLen; omega) (by omega) hB.size ?_
      intro v' w' hown hgrow hat
      refine wpList_nil ?_
      refine ⟨v', rfl, hB.grown hgrow hB.size (fun j hj => (World.ownsRow.lt (own_mono h4 g4) j hj).1), ?_⟩
      rw [upd_same, racesC_append, racesC_one]
      exact hown
     case refine_28 =>
      intro q c o hq ho vs W hR hv
      match q, hq with
      | 0, hq =>
       obtain rfl : c = 11 := by simpa using hq.symm
       obtain rfl := Option.some.inj ho
       have e10 : vs 10 = .slice (some ⟨b, 0, none⟩) 0 0 := hv ⟨10, .data⟩ (by simp) rfl rfl
       obtain ⟨hB, hown7⟩ := hR
       refine wpList_append_src rfl (.tmp 60) (.tmp 63) 28 rfl V2.heap.size 89 i9 (.agg #[.int .i64 0, .int .i64 0, .int .i64 0, .int .i64 0]) 4 32 Tryz.underlying28 hi9 hz9 hs9 hb9 rfl (by omega) (vs 7) (m + 1) _ rfl hown7 (vs 10) (rs.length - m) (racesC (rs.drop m)) rfl (by rw [e10]; exact hsq.out W hB) (racesC_one' _) (by unfold maxLen; omega) (by omega) hB.size ?_
       intro v' w' hown hgrow hat
       refine wpList_nil ?_
       refine ChainPost.mk' v' rfl ⟨hB.grown hgrow hB.size (fun j hj => (World.ownsRow.lt hown7 j hj).1), ?_⟩
       rw [upd_same, racesC_append]
       exact hown
      | q + 1, hq => simp at hq
     case refine_29 =>
      intro o ho vs W hR hv
      obtain rfl := Option.some.inj ho
      obtain ⟨hB, hown⟩ := hR
      have hfin : Hid (RacesAt 0 W (vs 11) (insR rs r)) := by
       show W.ownsRow _ _ _ _ _ _
       rw [hins.out]
       have e : (rs.take m ++ [r] ++ rs.drop m).length = m + 1 + (rs.length - m) := by simp; omega
       rw [show (rs.take m ++ r :: rs.drop m) = rs.take m ++ [r] ++ rs.drop m by simp, e]
       exact own_mono hown (Nat.zero_le _)
      have hfb : Hid (Below w.heap.size w W) := below_on hRV2.out.hb hB
      clear hown hB
      go_wp2
      go_ret
      exact ⟨⟨_, rfl, hfin.out⟩, hfb.out⟩
    ·have hml2 : m < lc := by omega
     have hml3 : (m : Int) < lc := by omega
     go_wp2_with fail
     have hRc2 : Hid (∀ W, Below V2.heap.size V2 W → RcW w W w.heap.size r) := fun W hW => hRV2.out.on hW
     have hsp : Hid (∀ W, Below V2.heap.size V2 W → SrcAt W 4 (.slice (some ⟨b, 0, none⟩) m lc) m (racesC (rs.take m))) := fun W hW => src_pre (hRA2.out W hW) (by omega) _
     have hsq : Hid (∀ W, Below V2.heap.size V2 W → SrcAt W 4 (.slice (some ⟨b, m * 4, none⟩) (rs.length - m) (lc - m)) (rs.length - m) (racesC (rs.drop m))) := fun W hW => src_post (hRA2.out W hW) (by omega) _
     refine wp_region_mixed (by kernel_rfl) (fun vs => { tmps := #[Value.slice (some { block := b, off := 0 }) rs.length lc, Value.int IntKind.i64 t, Value.int IntKind.i64 i, Value.int IntKind.i64 u, Value.int IntKind.i64 k, undef, undef, undef, undef, undef, vs 12, Value.pointer (some { block := w.heap.size, off := 0 }), Value.int IntKind.i64 ↑m, Value.int IntKind.i64 t, Value.int IntKind.i64 i, Value.int IntKind.i64 u, Value.int IntKind.i64 k, Value.agg #[Value.int IntKind.i64 t, Value.int IntKind.i64 i, Value.int IntKind.i64 u, Value.int IntKind.i64 k], Value.int IntKind.i64 u, Value.int IntKind.i64 t, Value.bool true, Value.int IntKind.i64 u, Value.int IntKind.i64 k, Value.int IntKind.i64 t, Value.int IntKind.i64 i, Value.agg #[Value.int IntKind.i64 u, Value.int IntKind.i64 k, Value.int IntKind.i64 t, Value.int IntKind.i64 i], Value.int IntKind.i64 ↑m, Value.slice (some { block := b, off := 0 }) rs.length lc, Value.int IntKind.i64 ↑rs.length, Value.bool false, Value.bool false, undef, undef, undef, undef, undef, undef, Value.bool false, u38, u39, Value.int IntKind.i64 ↑m, Value.slice (some { block := b, off := 0 }) rs.length lc, Value.int IntKind.i64 ↑rs.length, Value.bool false, Value.bool false, undef, undef, undef, undef, undef, undef, Value.bool false, undef, vs 0, vs 1, vs 2, vs 3, vs 4, vs 5, vs 6, vs 7, vs 8, vs 9, vs 10, vs 11], defers := [] }) (insVal (.slice (some ⟨b, 0, none⟩) rs.length lc) (.slice (some ⟨b, 0, none⟩) m lc) (.slice (some ⟨b, m * 4, none⟩) (rs.length - m) (lc - m)) r rs m) insSrc (fun i i' j h h' => by have := insSrc_cases h; have := insSrc_cases h'; omega) (fun i j h => by have := insSrc_cases h; rw [this.2]; rfl) 7 [11] insPure (insPV (.slice (some ⟨b, 0, none⟩) rs.length lc) (.slice (some ⟨b, m * 4, none⟩) (rs.length - m) (lc - m)) m) (insRR V2.heap.size V2 r rs m) (fun i => if i = 12 then Value.slice none 0 0 else undef) rfl (by kernel_rfl) (insVal_below _ _ _ r rs m) (fun i v lo hi w hp h => by rcases insPure_cases hp with rfl | rfl | rfl <;> exact h) (insRR_loc _ _ r rs m) (allAt_all ⟨?_, ?_, ?_, ?_, ?_, ?_, ?_, ?_, ?_, ?_, ?_, ?_, ?_, trivial⟩) (allAt_all ⟨?_, ?_, ?_, ?_, ?_, ?_, ?_, ?_, ?_, ?_, ?_, ?_, ?_, trivial⟩) ?_ ?_ ?_
     case refine_1 =>
      intro _ _ vs lo hi W hB hv
      go_wp2
      exact RegPost.own _ rfl (below_1 _ _) ⟨rfl, OwnInK.made (World.ownsRow_made W #[] 0 (Nat.le_refl _) (by unfold maxLen; omega) rfl)⟩
     case refine_2 =>
      intro _ _ vs lo hi W hB hv
      go_wp2
      exact RegPost.own _ rfl (Below.refl _ _) rfl
     case refine_3 =>
      intro _ _ vs lo hi W hB hv
      go_wp2
      exact RegPost.own _ rfl (Below.refl _ _) rfl
     case refine_4 =>
      intro _ _ vs lo hi W hB hv
      have e1 : vs 1 = .slice (some ⟨b, 0, none⟩) rs.length lc := (hv ⟨1, .data⟩ (by simp) rfl).1
      have e2 : vs 2 = .int .i64 m := (hv ⟨2, .data⟩ (by simp) rfl).1
      simp only [e1, e2]
      go_wp2
      exact RegPost.own (.slice (some ⟨b, 0, none⟩) m lc) (by rw [← e1, ← e2]; rfl) (Below.refl _ _) rfl
     case refine_5 =>
      intro _ _ vs lo hi W hB hv
      obtain ⟨⟨q0, q1⟩, _, _, _⟩ := hv ⟨0, .data⟩ (by simp) rfl
      have q0 : vs 0 = .slice (some ⟨lo 0, 0, none⟩) 0 0 := q0
      have q1 : OwnInK (lo 0) (hi 0) W 89 4 (vs 0) 0 [] := q1
      have e3 : vs 3 = .slice (some ⟨b, 0, none⟩) m lc := (hv ⟨3, .data⟩ (by simp) rfl).1
      refine wpList_append_src0 rfl (.tmp 53) (.tmp 56) 28 rfl 89 i9 (.agg #[.int .i64 0, .int .i64 0, .int .i64 0, .int .i64 0]) 4 32 Tryz.underlying28 hi9 hz9 hs9 hb9 rfl (by omega) (lo 0) q0 (vs 3) m (racesC (rs.take m)) rfl (by rw [e3]; exact hsp.out W hB) (racesC_one' _) (by unfold maxLen; omega) (by omega) (fun m0 n0 => ?_) (fun v1 w1 hown hgrow => ?_)
      ·refine wpList_nil ?_
       refine RegPost.take (.slice (some ⟨lo 0, 0, none⟩) 0 0) ⟨0, .data⟩ rfl (by simp) rfl rfl (Below.refl _ _) ?_
       show OwnInK (lo 0) (hi 0) W 89 4 _ m (racesC (rs.take m))
       rw [n0, m0, ← q0]
       exact q1
      ·refine wpList_nil ?_
       exact RegPost.own v1 rfl ((Below.refl _ _).grown hgrow (Nat.le_refl _) (fun j hj => by cases hj)) (OwnInK.made hown)
     case refine_6 =>
      intro _ _ vs lo hi W hB hv
      obtain ⟨_, _, _, b0, b1', b2, b3⟩ := hRc2.out W hB
      go_wp2
      exact RegPost.own (.agg #[.int .i64 r.t, .int .i64 r.a, .int .i64 r.u, .int .i64 r.b]) rfl (Below.refl _ _) rfl
     case refine_7 =>
      intro _ _ vs lo hi W hB hv
      have e5 : vs 5 = .agg #[.int .i64 r.t, .int .i64 r.a, .int .i64 r.u, .int .i64 r.b] := (hv ⟨5, .data⟩ (by simp) rfl).1
      simp only [e5]
      go_wp2
      exact RegPost.own (.slice (some ⟨W.heap.size, 0, none⟩) 1 1) (by rw [← e5]; rfl) (below_1 _ _) (OwnInK.made (World.ownsRow_lit W #[.int .i64 r.t, .int .i64 r.a, .int .i64 r.u, .int .i64 r.b] 1 (Nat.le_refl _) (by unfold maxLen; omega) rfl))
     case refine_8 => exact fun h => absurd (by decide) h
     case refine_9 =>
      intro _ _ vs lo hi W hB hv
      go_wp2
      exact RegPost.own _ rfl (Below.refl _ _) rfl
     case refine_10 =>
      intro _ _ vs lo hi W hB hv
      go_wp2
      exact RegPost.own _ rfl (Below.refl _ _) rfl
     case refine_11 =>
      intro _ _ vs lo hi W hB hv
      have e8 : vs 8 = .slice (some ⟨b, 0, none⟩) rs.length lc := (hv ⟨8, .data⟩ (by simp) rfl).1
      have e9 : vs 9 = .int .i64 m := (hv ⟨9, .data⟩ (by simp) rfl).1
      simp only [e8, e9]
      go_wp2
      exact RegPost.own (.slice (some ⟨b, m * 4, none⟩) (rs.length - m) (lc - m)) (by rw [← e8, ← e9]; rfl) (Below.refl _ _) rfl
     case refine_12 => exact fun h => absurd (by decide) h
     case refine_13 => exact fun _ h => absurd h (by simp)
     case refine_14 => exact fun h => absurd h (by decide)
     case refine_15 => exact fun h => absurd h (by decide)
     case refine_16 => exact fun h => absurd h (by decide)
     case refine_17 => exact fun h => absurd h (by decide)
     case refine_18 => exact fun h => absurd h (by decide)
     case refine_19 => exact fun h => absurd h (by decide)
     case refine_20 => exact fun h => absurd h (by decide)
     case refine_21 => exact fun h => absurd h (by decide)
     case refine_22 =>
      intro _ _ q vs W hR hv
      go_wp2
      exact PurePost.mk' (.slice (some ⟨b, 0, none⟩) rs.length lc) rfl rfl
     case refine_23 =>
      intro _ _ q vs W hR hv
      go_wp2
      exact PurePost.mk' (.int .i64 m) rfl rfl
     case refine_24 =>
      intro _ _ q vs W hR hv
      have e8 : vs 8 = .slice (some ⟨b, 0, none⟩) rs.length lc := hv ⟨8, .data⟩ (by simp) rfl rfl
      have e9 : vs 9 = .int .i64 m := hv ⟨9, .data⟩ (by simp) rfl rfl
      simp only [e8, e9]
      go_wp2
      exact PurePost.mk' (.slice (some ⟨b, m * 4, none⟩) (rs.length - m) (lc - m)) (by rw [← e8, ← e9]; rfl) rfl
     case refine_25 => exact fun h => absurd h (by decide)
     case refine_26 => exact fun h => absurd h (by decide)
     case refine_27 =>
      intro o ho vs lo hi W hB hv
      obtain rfl := Option.some.inj ho
      obtain ⟨h4, g4, _, _⟩ := hv ⟨4, .data⟩ (by simp) rfl
      obtain ⟨h6, g6, _, _⟩ := hv ⟨6, .data⟩ (by simp) rfl
      have h4 : W.ownsRow (lo 4) 89 4 (vs 4) m (racesC (rs.take m)) := h4.1
      have h6 : W.ownsRow (lo 6) 89 4 (vs 6) 1 r.v := h6.1
      refine wpList_append_src rfl (.tmp 57) (.tmp 59) 28 rfl V2.heap.size 89 i9 (.agg #[.int .i64 0, .int .i64 0, .int .i64 0, .int .i64 0]) 4 32 Tryz.underlying28 hi9 hz9 hs9 hb9 rfl (by omega) (vs 4) m (racesC (rs.take m)) rfl (own_mono h4 g4) (vs 6) 1 r.v rfl (src_own h6 (by omega)) (by rw [← racesC_one]; exact racesC_one' _) (by unfold maxLen; omega) (by omega) hB.size ?_
      intro v' w' hown hgrow hat
      refine wpList_nil ?_
      refine ⟨v', rfl, hB.grown hgrow hB.size (fun j hj => (World.ownsRow.lt (own_mono h4 g4) j hj).1), ?_⟩
      rw [upd_same, racesC_append, racesC_one]
      exact hown
     case refine_28 =>
      intro q c o hq ho vs W hR hv
      match q, hq with
      | 0, hq =>
       obtain rfl : c = 11 := by simpa using hq.symm
       obtain rfl := Option.some.inj ho
       have e10 : vs 10 = .slice (some ⟨b, m * 4, none⟩) (rs.length - m) (lc - m) := hv ⟨10, .data⟩ (by simp) rfl rfl
       obtain ⟨hB, hown7⟩ := hR
       refine wpList_append_src rfl (.tmp 60) (.tmp 63) 28 rfl V2.heap.size 89 i9 (.agg #[.int .i64 0, .int .i64 0, .int .i64 0, .int .i64 0]) 4 32 Tryz.underlying28 hi9 hz9 hs9 hb9 rfl (by omega) (vs 7) (m + 1) _ rfl hown7 (vs 10) (rs.length - m) (racesC (rs.drop m)) rfl (by rw [e10]; exact hsq.out W hB) (racesC_one' _) (by unfold maxLen; omega) (by omega) hB.size ?_
       intro v' w' hown hgrow hat
       refine wpList_nil ?_
       refine ChainPost.mk' v' rfl ⟨hB.grown hgrow hB.size (fun j hj => (World.ownsRow.lt hown7 j hj).1), ?_⟩
       rw [upd_same, racesC_append]
       exact hown
      | q + 1, hq => simp at hq
     case refine_29 =>
      intro o ho vs W hR hv
      obtain rfl := Option.some.inj ho
      obtain ⟨hB, hown⟩ := hR
      have hfin : Hid (RacesAt 0 W (vs 11) (insR rs r)) := by
       show W.ownsRow _ _ _ _ _ _
       rw [hins.out]
       have e : (rs.take m ++ [r] ++ rs.drop m).length = m + 1 + (rs.length - m) := by simp; omega
       rw [show (rs.take m ++ r :: rs.drop m) = rs.take m ++ [r] ++ rs.drop m by simp, e]
       exact own_mono hown (Nat.zero_le _)
      have hfb : Hid (Below w.heap.size w W) := below_on hRV2.out.hb hB
      clear hown hB
      go_wp2
      go_ret
      exact ⟨⟨_, rfl, hfin.out⟩, hfb.out⟩
 ·go_upto_region 4 with fail
  have hRc : Hid (RcW w (w.alloc (.cells #[.int .i64 t, .int .i64 i, .int .i64 u, .int .i64 k] 89)) w.heap.size r) := by
   have hg := rangeAt_heap (heap_alloc_new w (.cells #[.int .i64 t, .int .i64 i, .int .i64 u, .int .i64 k] 89))
   have hr2 : r = ⟨t, i, u, k⟩ := by rw [hr]; simp [mkRace, hut]
   rw [hr2]
   exact ⟨below_1 _ _, Nat.le_refl _, by simp, hg 0 _ rfl, hg 1 _ rfl, hg 2 _ rfl, hg 3 _ rfl⟩
  have hp0 : Hid (0 + ((rs.drop 0).takeWhile fun q => lessR q r).length = posR rs r) := by show _ = _; simp [posR]
  generalize w.alloc (.cells #[.int .i64 t, .int .i64 i, .int .i64 u, .int .i64 k] 89) = WA at *
  clear hr h
  go_wp2
  go_loopw [12] (fun iv wr => ∃ m : Nat, m ≤ rs.length ∧ iv = .int .i64 m ∧ Hid (RcW w wr w.heap.size r) ∧ Hid (m + ((rs.drop m).takeWhile fun q => lessR q r).length = posR rs r)) (fun iv _ => rs.length - (intOf iv).toNat)
  case atStart => exact ⟨0, Nat.zero_le _, rfl, hRc, hp0⟩
  case round =>
   obtain ⟨m, hm, rfl, hW, hp⟩ := hrel
   clear hRc hp0
   obtain ⟨hbW, hlo, hhi, c0, c1, c2, c3⟩ := hW.out
   have k0 := cell_regrown c0
   have k1 := cell_regrown c1
   have k2 := cell_regrown c2
   have k3 := cell_regrown c3
   by_cases hlt : m < rs.length
   ·have hlt' : (m : Int) < rs.length := by omega
    have hRA := hH.out wr hbW
    obtain ⟨d0, d1, d2, d3⟩ := RacesAt.cells hRA hlt
    have hin1 := takeWhile_drop_pos (r := r) hlt
    have hin2 := takeWhile_drop_end (r := r) hlt
    have hi1H : Hid (lessR rs[m] r = true → m + 1 + ((rs.drop (m + 1)).takeWhile fun q => lessR q r).length = posR rs r) := fun q => hin1 q hp.out
    have hi2H : Hid (lessR rs[m] r = false → posR rs r = m) := fun q => hin2 q hp.out
    have heq : Hid (rs[m]? = some rs[m]) := by show _ = _; simp [hlt]
    obtain ⟨x, hx⟩ : ∃ x, x = rs[m] := ⟨_, rfl⟩
    rw [← hx] at d0 d1 d2 d3 hi1H hi2H heq
    have e0 := cell_regrown d0
    have e1 := cell_regrown d1
    have e2 := cell_regrown d2
    have e3 := cell_regrown d3
    have cL : ∀ d os, Calls Tryz.prog 45 #[.agg #[.int .i64 x.t, .int .i64 x.a, .int .i64 x.u, .int .i64 x.b], .agg #[.int .i64 r.t, .int .i64 r.a, .int .i64 r.u, .int .i64 r.b]] (Sort.grow (redrawn wr d) os) fun e w'' => e = .returned (.bool (lessR x r)) ∧ ∃ p : Regrown, w'' = Sort.grow (redrawn wr p.d) p.os := fun d os => Calls.regrown_of (ls.out x _)
    generalize lessR x r = lb at cL hi1H hi2H
    clear hin1 hin2 hx
    cases lb with
    | true =>
     go_wp2_with fail
     refine wp_region_quiet_below (by kernel_rfl) (by kernel_rfl) ?_
     repeat (first | go_big_quiet_step (exact cL _ _) | quiet_step (exact cL _ _))
     refine wpQuiet_nil ?_
     intro _ hw'
     obtain ⟨⟨dq, osq⟩, hw''⟩ := hw'
     subst hw''
     have hRV : Hid (RcW w (Sort.grow (redrawn wr dq) osq) w.heap.size r) := hW.out.on (below_regrown wr dq osq)
     clear k0 k1 k2 k3 e0 e1 e2 e3 cL c0 c1 c2 c3 d0 d1 d2 d3 hRA
     generalize Sort.grow (redrawn wr dq) osq = V at *
     go_wp2
     go_roundw
     case rel => exact ⟨m + 1, by omega, by go_num, hRV, hi1H.out (by trivial)⟩
     case measure => simp [intOf]; omega
    | false =>
     have hpm : Hid (posR rs r = m) := hi2H.out (by trivial)
     go_wp2_with fail
     refine wp_region_quiet_below (by kernel_rfl) (by kernel_rfl) ?_
     repeat (first | go_big_quiet_step (exact cL _ _) | quiet_step (exact cL _ _))
     refine wpQuiet_nil ?_
     intro _ hw'
     obtain ⟨⟨dq, osq⟩, hw''⟩ := hw'
     subst hw''
     have hRV : Hid (RcW w (Sort.grow (redrawn wr dq) osq) w.heap.size r) := hW.out.on (below_regrown wr dq osq)
     clear k0 k1 k2 k3 e0 e1 e2 e3 cL c0 c1 c2 c3 d0 d1 d2 d3 hRA
     generalize Sort.grow (redrawn wr dq) osq = V at *
     obtain ⟨hbV, hloV, hhiV, c0, c1, c2, c3⟩ := hRV.out
     obtain ⟨d0, d1, d2, d3⟩ := RacesAt.cells (hH.out V hbV) hlt
     have hx2 : Hid (rs[m] = x) := by
      have := heq.out
      rw [List.getElem?_eq_getElem hlt] at this
      exact Option.some.inj this
     rw [hx2.out] at d0 d1 d2 d3
     by_cases hxr : x = r
     ·subst hxr
      have hins : Hid (insR rs x = rs) := by show _ = _; unfold insR; rw [hpm.out, heq.out]; simp
      go_wp2_with fail
      go_quiet (fail)
      go_wp2
      go_ret
      exact ⟨⟨_, rfl, by rw [hins.out]; exact (hH.out V hbV).below (below_drewN (Below.refl _ _) _)⟩, below_drewN hbV _⟩
     ·have hxn : ¬ (x.t = r.t ∧ x.a = r.a ∧ x.u = r.u ∧ x.b = r.b) := fun ⟨q1, q2, q3, q4⟩ => hxr (by cases x; cases r; simp_all)
      go_wp2_with fail
      refine wp_region_quiet_lit (by kernel_rfl) (by kernel_rfl) ?_
      repeat (first | go_big_quiet_step (fail) | quiet_step (fail))
      refine wpQuiet_step (fun K hK => ?_)
      go_simp
      refine ⟨.bool false, fun a => ?_, hK _ ?_⟩
      ·by_cases q1 : x.t = r.t
       ·by_cases q2 : x.a = r.a
        ·by_cases q3 : x.u = r.u
         ·by_cases q4 : x.b = r.b
          ·exact absurd ⟨q1, q2, q3, q4⟩ hxn
          ·simp [q1, q2, q3, q4]
         ·simp [q1, q2, q3]
        ·simp [q1, q2]
       ·simp [q1]
      clear hK K
      repeat (first | go_big_quiet_step (fail) | quiet_step (fail))
      refine wpQuiet_nil ?_
      intro _ hw'
      obtain ⟨nq, hw''⟩ := hw'
      subst hw''
      go_wp2_with fail
      have hRV2 : Hid (RcW w (V.drewN nq) w.heap.size r) := hRV.out.on (below_drewN (Below.refl _ _) _)
      have hins : Hid (insR rs r = rs.take m ++ r :: rs.drop m) := by
       show _ = _
       unfold insR
       rw [hpm.out, heq.out, if_neg (fun q => hxr (Option.some.inj q))]
      generalize V.drewN nq = V2 at *
      have hRA2 : Hid (∀ W, Below V2.heap.size V2 W → RacesAt 0 W (.slice (some ⟨b, 0, none⟩) rs.length lc) rs) := fun W hW => hH.out W (below_on hRV2.out.hb hW)
      clear c0 c1 c2 c3 d0 d1 d2 d3 hxn
      have hRc2 : Hid (∀ W, Below V2.heap.size V2 W → RcW w W w.heap.size r) := fun W hW => hRV2.out.on hW
      have hsp : Hid (∀ W, Below V2.heap.size V2 W → SrcAt W 4 (.slice (some ⟨b, 0, none⟩) m lc) m (racesC (rs.take m))) := fun W hW => src_pre (hRA2.out W hW) (by omega) _
      have hsq : Hid (∀ W, Below V2.heap.size V2 W → SrcAt W 4 (.slice (some ⟨b, m * 4, none⟩) (rs.length - m) (lc - m)) (rs.length - m) (racesC (rs.drop m))) := fun W hW => src_post (hRA2.out W hW) (by omega) _
      refine wp_region_mixed (by kernel_rfl) (fun vs => { tmps := #[Value.slice (some { block := b, off := 0 }) rs.length lc, Value.int IntKind.i64 t, Value.int IntKind.i64 i, Value.int IntKind.i64 u, Value.int IntKind.i64 k, undef, undef, undef, undef, undef, vs 12, Value.pointer (some { block := w.heap.size, off := 0 }), Value.int IntKind.i64 ↑m, Value.int IntKind.i64 t, Value.int IntKind.i64 i, Value.int IntKind.i64 u, Value.int IntKind.i64 k, Value.agg #[Value.int IntKind.i64 t, Value.int IntKind.i64 i, Value.int IntKind.i64 u, Value.int IntKind.i64 k], Value.int IntKind.i64 u, Value.int IntKind.i64 t, Value.bool false, undef, undef, undef, undef, undef, Value.int IntKind.i64 ↑m, Value.slice (some { block := b, off := 0 }) rs.length lc, Value.int IntKind.i64 ↑rs.length, Value.bool true, Value.bool true, Value.slice (some { block := b, off := 0 }) rs.length lc, Value.int IntKind.i64 ↑m, Value.pointer (some { block := b, off := m * 4 }), Value.agg #[Value.int IntKind.i64 x.t, Value.int IntKind.i64 x.a, Value.int IntKind.i64 x.u, Value.int IntKind.i64 x.b], Value.agg #[Value.int IntKind.i64 r.t, Value.int IntKind.i64 r.a, Value.int IntKind.i64 r.u, Value.int IntKind.i64 r.b], Value.bool false, Value.bool false, u38, u39, Value.int IntKind.i64 ↑m, Value.slice (some { block := b, off := 0 }) rs.length lc, Value.int IntKind.i64 ↑rs.length, Value.bool true, Value.bool true, Value.slice (some { block := b, off := 0 }) rs.length lc, Value.int IntKind.i64 ↑m, Value.pointer (some { block := b, off := m * 4 }), Value.agg #[Value.int IntKind.i64 x.t, Value.int IntKind.i64 x.a, Value.int IntKind.i64 x.u, Value.int IntKind.i64 x.b], Value.agg #[Value.int IntKind.i64 r.t, Value.int IntKind.i64 r.a, Value.int IntKind.i64 r.u, Value.int IntKind.i64 r.b], Value.bool false, Value.bool false, undef, vs 0, vs 1, vs 2, vs 3, vs 4, vs 5, vs 6, vs 7, vs 8, vs 9, vs 10, vs 11], defers := [] }) (insVal (.slice (some ⟨b, 0, none⟩) rs.length lc) (.slice (some ⟨b, 0, none⟩) m lc) (.slice (some ⟨b, m * 4, none⟩) (rs.length - m) (lc - m)) r rs m) insSrc (fun i i' j h h' => by have := insSrc_cases h; have := insSrc_cases h'; omega) (fun i j h => by have := insSrc_cases h; rw [this.2]; rfl) 7 [11] insPure (insPV (.slice (some ⟨b, 0, none⟩) rs.length lc) (.slice (some ⟨b, m * 4, none⟩) (rs.length - m) (lc - m)) m) (insRR V2.heap.size V2 r rs m) (fun i => if i = 12 then Value.slice none 0 0 else undef) rfl (by kernel_rfl) (insVal_below _ _ _ r rs m) (fun i v lo hi w hp h => by rcases insPure_cases hp with rfl | rfl | rfl <;> exact h) (insRR_loc _ _ r rs m) (allAt_all ⟨?_, ?_, ?_, ?_, ?_, ?_, ?_, ?_, ?_, ?_, ?_, ?_, ?_, trivial⟩) (allAt_all ⟨?_, ?_, ?_, ?_, ?_, ?_, ?_, ?_, ?_, ?_, ?_, ?_, ?_, trivial⟩) ?_ ?_ ?_
      case refine_1 =>
       intro _ _ vs lo hi W hB hv
       go_wp2
       exact RegPost.own _ rfl (below_1 _ _) ⟨rfl, OwnInK.made (World.ownsRow_made W #[] 0 (Nat.le_refl _) (by unfold maxLen; omega) rfl)⟩
      case refine_2 =>
       intro _ _ vs lo hi W hB hv
       go_wp2
       exact RegPost.own _ rfl (Below.refl _ _) rfl
      case refine_3 =>
       intro _ _ vs lo hi W hB hv
       go_wp2
       exact RegPost.own _ rfl (Below.refl _ _) rfl
      case refine_4 =>
       intro _ _ vs lo hi W hB hv
       have e1 : vs 1 = .slice (some ⟨b, 0, none⟩) rs.length lc := (hv ⟨1, .data⟩ (by simp) rfl).1
       have e2 : vs 2 = .int .i64 m := (hv ⟨2, .data⟩ (by simp) rfl).1
       simp only [e1, e2]
       go_wp2
       exact RegPost.own (.slice (some ⟨b, 0, none⟩) m lc) (by rw [← e1, ← e2]; rfl) (Below.refl _ _) rfl
      case refine_5 =>
       intro _ _ vs lo hi W hB hv
       obtain ⟨⟨q0, q1⟩, _, _, _⟩ := hv ⟨0, .data⟩ (by simp) rfl
       have q0 : vs 0 = .slice (some ⟨lo 0, 0, none⟩) 0 0 := q0
       have q1 : OwnInK (lo 0) (hi 0) W 89 4 (vs 0) 0 [] := q1
       have e3 : vs 3 = .slice (some ⟨b, 0, none⟩) m lc := (hv ⟨3, .data⟩ (by simp) rfl).1
       refine wpList_append_src0 rfl (.tmp 53) (.tmp 56) 28 rfl 89 i9 (.agg #[.int .i64 0, .int .i64 0, .int .i64 0, .int .i64 0]) 4 32 Tryz.underlying28 hi9 hz9 hs9 hb9 rfl (by omega) (lo 0) q0 (vs 3) m (racesC (rs.take m)) rfl (by rw [e3]; exact hsp.out W hB) (racesC_one' _) (by unfold maxLen; omega) (by omega) (fun m0 n0 => ?_) (fun v1 w1 hown hgrow => ?_)
       ·refine wpList_nil ?_
        refine RegPost.take (.slice (some ⟨lo 0, 0, none⟩) 0 0) ⟨0, .data⟩ rfl (by simp) rfl rfl (Below.refl _ _) ?_
        show OwnInK (lo 0) (hi 0) W 89 4 _ m (racesC (rs.take m))
        rw [n0, m0, ← q0]
        exact q1
       ·refine wpList_nil ?_
        exact RegPost.own v1 rfl ((Below.refl _ _).grown hgrow (Nat.le_refl _) (fun j hj => by cases hj)) (OwnInK.made hown)
      case refine_6 =>
       intro _ _ vs lo hi W hB hv
       obtain ⟨_, _, _, b0, b1', b2, b3⟩ := hRc2.out W hB
       go_wp2
       exact RegPost.own (.agg #[.int .i64 r.t, .int .i64 r.a, .int .i64 r.u, .int .i64 r.b]) rfl (Below.refl _ _) rfl
      case refine_7 =>
       intro _ _ vs lo hi W hB hv
       have e5 : vs 5 = .agg #[.int .i64 r.t, .int .i64 r.a, .int .i64 r.u, .int .i64 r.b] := (hv ⟨5, .data⟩ (by simp) rfl).1
       simp only [e5]
       go_wp2
       exact RegPost.own (.slice (some ⟨W.heap.size, 0, none⟩) 1 1) (by rw [← e5]; rfl) (below_1 _ _) (OwnInK.made (World.ownsRow_lit W #[.int .i64 r.t, .int .i64 r.a, .int .i64 r.u, .int .i64 r.b] 1 (Nat.le_refl _) (by unfold maxLen; omega) rfl))
      case refine_8 => exact fun h => absurd (by decide) h
      case refine_9 =>
       intro _ _ vs lo hi W hB hv
       go_wp2
       exact RegPost.own _ rfl (Below.refl _ _) rfl
      case refine_10 =>
       intro _ _ vs lo hi W hB hv
       go_wp2
       exact RegPost.own _ rfl (Below.refl _ _) rfl
      case refine_11 =>
       intro _ _ vs lo hi W hB hv
       have e8 : vs 8 = .slice (some ⟨b, 0, none⟩) rs.length lc := (hv ⟨8, .data⟩ (by simp) rfl).1
       have e9 : vs 9 = .int .i64 m := (hv ⟨9, .data⟩ (by simp) rfl).1
       simp only [e8, e9]
       go_wp2
       exact RegPost.own (.slice (some ⟨b, m * 4, none⟩) (rs.length - m) (lc - m)) (by rw [← e8, ← e9]; rfl) (Below.refl _ _) rfl
      case refine_12 => exact fun h => absurd (by decide) h
      case refine_13 => exact fun _ h => absurd h (by simp)
      case refine_14 => exact fun h => absurd h (by decide)
      case refine_15 => exact fun h => absurd h (by decide)
      case refine_16 => exact fun h => absurd h (by decide)
      case refine_17 => exact fun h => absurd h (by decide)
      case refine_18 => exact fun h => absurd h (by decide)
      case refine_19 => exact fun h => absurd h (by decide)
      case refine_20 => exact fun h => absurd h (by decide)
      case refine_21 => exact fun h => absurd h (by decide)
      case refine_22 =>
       intro _ _ q vs W hR hv
       go_wp2
       exact PurePost.mk' (.slice (some ⟨b, 0, none⟩) rs.length lc) rfl rfl
      case refine_23 =>
       intro _ _ q vs W hR hv
       go_wp2
       exact PurePost.mk' (.int .i64 m) rfl rfl
      case refine_24 =>
       intro _ _ q vs W hR hv
       have e8 : vs 8 = .slice (some ⟨b, 0, none⟩) rs.length lc := hv ⟨8, .data⟩ (by simp) rfl rfl
       have e9 : vs 9 = .int .i64 m := hv ⟨9, .data⟩ (by simp) rfl rfl
       simp only [e8, e9]
       go_wp2
       exact PurePost.mk' (.slice (some ⟨b, m * 4, none⟩) (rs.length - m) (lc - m)) (by rw [← e8, ← e9]; rfl) rfl
      case refine_25 => exact fun h => absurd h (by decide)
      case refine_26 => exact fun h => absurd h (by decide)
      case refine_27 =>
       intro o ho vs lo hi W hB hv
       obtain rfl := Option.some.inj ho
       obtain ⟨h4, g4, _, _⟩ := hv ⟨4, .data⟩ (by simp) rfl
       obtain ⟨h6, g6, _, _⟩ := hv ⟨6, .data⟩ (by simp) rfl
       have h4 : W.ownsRow (lo 4) 89 4 (vs 4) m (racesC (rs.take m)) := h4.1
       have h6 : W.ownsRow (lo 6) 89 4 (vs 6) 1 r.v := h6.1
       refine wpList_append_src rfl (.tmp 57) (.tmp 59) 28 rfl V2.heap.size 89 i9 (.agg #[.int .i64 0, .int .i64 0, .int .i64 0, .int .i64 0]) 4 32 Tryz.underlying28 hi9 hz9 hs9 hb9 rfl (by omega) (vs 4) m (racesC (rs.take m)) rfl (own_mono h4 g4) (vs 6) 1 r.v rfl (src_own h6 (by omega)) (by rw [← racesC_one]; exact racesC_one' _) (by unfold maxLen; omega) (by omega) hB.size ?_
       intro v' w' hown hgrow hat
       refine wpList_nil ?_
       refine ⟨v', rfl, hB.grown hgrow hB.size (fun j hj => (World.ownsRow.lt (own_mono h4 g4) j hj).1), ?_⟩
       rw [upd_same, racesC_append, racesC_one]
       exact hown
      case refine_28 =>
       intro q c o hq ho vs W hR hv
       match q, hq with
       | 0, hq =>
        obtain rfl : c = 11 := by simpa using hq.symm
        obtain rfl := Option.some.inj ho
        have e10 : vs 10 = .slice (some ⟨b, m * 4, none⟩) (rs.length - m) (lc - m) := hv ⟨10, .data⟩ (by simp) rfl rfl
        obtain ⟨hB, hown7⟩ := hR
        refine wpList_append_src rfl (.tmp 60) (.tmp 63) 28 rfl V2.heap.size 89 i9 (.agg #[.int .i64 0, .int .i64 0, .int .i64 0, .int .i64 0]) 4 32 Tryz.underlying28 hi9 hz9 hs9 hb9 rfl (by omega) (vs 7) (m + 1) _ rfl hown7 (vs 10) (rs.length - m) (racesC (rs.drop m)) rfl (by rw [e10]; exact hsq.out W hB) (racesC_one' _) (by unfold maxLen; omega) (by omega) hB.size ?_
        intro v' w' hown hgrow hat
        refine wpList_nil ?_
        refine ChainPost.mk' v' rfl ⟨hB.grown hgrow hB.size (fun j hj => (World.ownsRow.lt hown7 j hj).1), ?_⟩
        rw [upd_same, racesC_append]
        exact hown
       | q + 1, hq => simp at hq
      case refine_29 =>
       intro o ho vs W hR hv
       obtain rfl := Option.some.inj ho
       obtain ⟨hB, hown⟩ := hR
       have hfin : Hid (RacesAt 0 W (vs 11) (insR rs r)) := by
        show W.ownsRow _ _ _ _ _ _
        rw [hins.out]
        have e : (rs.take m ++ [r] ++ rs.drop m).length = m + 1 + (rs.length - m) := by simp; omega
        rw [show (rs.take m ++ r :: rs.drop m) = rs.take m ++ [r] ++ rs.drop m by simp, e]
        exact own_mono hown (Nat.zero_le _)
       have hfb : Hid (Below w.heap.size w W) := below_on hRV2.out.hb hB
       clear hown hB
       go_wp2
       go_ret
       exact ⟨⟨_, rfl, hfin.out⟩, hfb.out⟩
   ·have hme : m = rs.length := by omega
    have hge : ¬ ((m : Int) < rs.length) := by omega
    have hpm : Hid (posR rs r = m) := by
     have := hp.out
     rw [List.drop_eq_nil_of_le (by omega)] at this
     show _ = _
     simpa using this.symm
    have hins : Hid (insR rs r = rs.take m ++ r :: rs.drop m) := by
     show _ = _
     unfold insR
     rw [hpm.out, List.getElem?_eq_none (by omega), if_neg (by simp)]
    have hmle : m ≤ rs.length := by omega
    clear hme k0 k1 k2 k3 c0 c1 c2 c3
    go_wp2_with fail
    go_quiet (fail)
    have hRV : Hid (RcW w (wr.drewN nq) w.heap.size r) := hW.out.on (below_drewN (Below.refl _ _) _)
    generalize wr.drewN nq = V at *
    go_wp2_with fail
    go_quiet (fail)
    have hRV2 : Hid (RcW w (V.drewN nq) w.heap.size r) := hRV.out.on (below_drewN (Below.refl _ _) _)
    generalize V.drewN nq = V2 at *
    have hRA2 : Hid (∀ W, Below V2.heap.size V2 W → RacesAt 0 W (.slice (some ⟨b, 0, none⟩) rs.length lc) rs) := fun W hW => hH.out W (below_on hRV2.out.hb hW)
    by_cases hml : lc = m
    ·subst lc
     go_wp2_with fail
     have hRc2 : Hid (∀ W, Below V2.heap.size V2 W → RcW w W w.heap.size r) := fun W hW => hRV2.out.on hW
     have hsp : Hid (∀ W, Below V2.heap.size V2 W → SrcAt W 4 (.slice (some ⟨b, 0, none⟩) m m) m (racesC (rs.take m))) := fun W hW => src_pre (hRA2.out W hW) (by omega) _
     have hsq : Hid (∀ W, Below V2.heap.size V2 W → SrcAt W 4 (.slice (some ⟨b, 0, none⟩) 0 0) (rs.length - m) (racesC (rs.drop m))) := fun W hW => (by rw [show rs.length - m = 0 by omega, List.drop_eq_nil_of_le (by omega)]; exact .inr ⟨⟨b, 0, none⟩, 0, rfl, rfl, fun j u hj => by simp [racesC] at hj⟩)
     refine wp_region_mixed (by kernel_rfl) (fun vs => { tmps := #[Value.slice (some { block := b, off := 0 }) rs.length m, Value.int IntKind.i64 t, Value.int IntKind.i64 i, Value.int IntKind.i64 u, Value.int IntKind.i64 k, undef, undef, undef, undef, undef, vs 12, Value.pointer (some { block := w.heap.size, off := 0 }), Value.int IntKind.i64 ↑m, Value.int IntKind.i64 t, Value.int IntKind.i64 i, Value.int IntKind.i64 u, Value.int IntKind.i64 k, Value.agg #[Value.int IntKind.i64 t, Value.int IntKind.i64 i, Value.int IntKind.i64 u, Value.int IntKind.i64 k], Value.int IntKind.i64 u, Value.int IntKind.i64 t, Value.bool false, undef, undef, undef, undef, undef, Value.int IntKind.i64 ↑m, Value.slice (some { block := b, off := 0 }) rs.length m, Value.int IntKind.i64 ↑rs.length, Value.bool false, Value.bool false, undef, undef, undef, undef, undef, undef, Value.bool false, u38, u39, Value.int IntKind.i64 ↑m, Value.slice (some { block := b, off := 0 }) rs.length m, Value.int IntKind.i64 ↑rs.length, Value.bool false, Value.bool false, undef, undef, undef, undef, undef, undef, Value.bool false, undef, vs 0, vs 1, vs 2, vs 3, vs 4, vs 5, vs 6, vs 7, vs 8, vs 9, vs 10, vs 11], defers := [] }) (insVal (.slice (some ⟨b, 0, none⟩) rs.length m) (.slice (some ⟨b, 0, none⟩) m m) (.slice (some ⟨b, 0, none⟩) 0 0) r rs m) insSrc (fun i i' j h h' => by have := insSrc_cases h; have := insSrc_cases h'; omega) (fun i j h => by have := insSrc_cases h; rw [this.2]; rfl) 7 [11] insPure (insPV (.slice (some ⟨b, 0, none⟩) rs.length m) (.slice (some ⟨b, 0, none⟩) 0 0) m) (insRR V2.heap.size V2 r rs m) (fun i => if i = 12 then Value.slice none 0 0 else undef) rfl (by kernel_rfl) (insVal_below _ _ _ r rs m) (fun i v lo hi w hp h => by rcases insPure_cases hp with rfl | rfl | rfl <;> exact h) (insRR_loc _ _ r rs m) (allAt_all ⟨?_, ?_, ?_, ?_, ?_, ?_, ?_, ?_, ?_, ?_, ?_, ?_, ?_, trivial⟩) (allAt_all ⟨?_, ?_, ?_, ?_, ?_, ?_, ?_, ?_, ?_, ?_, ?_, ?_, ?_, trivial⟩) ?_ ?_ ?_
     case refine_1 =>
      intro _ _ vs lo hi W hB hv
      go_wp2
      exact RegPost.own _ rfl (below_1 _ _) ⟨rfl, OwnInK.made (World.ownsRow_made W #[] 0 (Nat.le_refl _) (by unfold maxLen; omega) rfl)⟩
     case refine_2 =>
      intro _ _ vs lo hi W hB hv
      go_wp2
      exact RegPost.own _ rfl (Below.refl _ _) rfl
     case refine_3 =>
      intro _ _ vs lo hi W hB hv
      go_wp2
      exact RegPost.own _ rfl (Below.refl _ _) rfl
     case refine_4 =>
      intro _ _ vs lo hi W hB hv
      have e1 : vs 1 = .slice (some ⟨b, 0, none⟩) rs.length m := (hv ⟨1, .data⟩ (by simp) rfl).1
      have e2 : vs 2 = .int .i64 m := (hv ⟨2, .data⟩ (by simp) rfl).1
      simp only [e1, e2]
      go_wp2
      exact RegPost.own (.slice (some ⟨b, 0, none⟩) m m) (by rw [← e1, ← e2]; rfl) (Below.refl _ _) rfl
     case refine_5 =>
      intro _ _ vs lo hi W hB hv
      obtain ⟨⟨q0, q1⟩, _, _, _⟩ := hv ⟨0, .data⟩ (by simp) rfl
      have q0 : vs 0 = .slice (some ⟨lo 0, 0, none⟩) 0 0 := q0
      have q1 : OwnInK (lo 0) (hi 0) W 89 4 (vs 0) 0 [] := q1
      have e3 : vs 3 = .slice (some ⟨b, 0, none⟩) m m := (hv ⟨3, .data⟩ (by simp) rfl).1
      refine wpList_append_src0 rfl (.tmp 53) (.tmp 56) 28 rfl 89 i9 (.agg #[.int .i64 0, .int .i64 0, .int .i64 0, .int .i64 0]) 4 32 Tryz.underlying28 hi9 hz9 hs9 hb9 rfl (by omega) (lo 0) q0 (vs 3) m (racesC (rs.take m)) rfl (by rw [e3]; exact hsp.out W hB) (racesC_one' _) (by unfold maxLen; omega) (by omega) (fun m0 n0 => ?_) (fun v1 w1 hown hgrow => ?_)
      ·refine wpList_nil ?_
       refine RegPost.take (.slice (some ⟨lo 0, 0, none⟩) 0 0) ⟨0, .data⟩ rfl (by simp) rfl rfl (Below.refl _ _) ?_
       show OwnInK (lo 0) (hi 0) W 89 4 _ m (racesC (rs.take m))
       rw [n0, m0, ← q0]
       exact q1
      ·refine wpList_nil ?_
       exact RegPost.own v1 rfl ((Below.refl _ _).grown hgrow (Nat.le_refl _) (fun j hj => by cases hj)) (OwnInK.made hown)
     case refine_6 =>
      intro _ _ vs lo hi W hB hv
      obtain ⟨_, _, _, b0, b1', b2, b3⟩ := hRc2.out W hB
      go_wp2
      exact RegPost.own (.agg #[.int .i64 r.t, .int .i64 r.a, .int .i64 r.u, .int .i64 r.b]) rfl (Below.refl _ _) rfl
     case refine_7 =>
      intro _ _ vs lo hi W hB hv
      have e5 : vs 5 = .agg #[.int .i64 r.t, .int .i64 r.a, .int .i64 r.u, .int .i64 r.b] := (hv ⟨5, .data⟩ (by simp) rfl).1
      simp only [e5]
      go_wp2
      exact RegPost.own (.slice (some ⟨W.heap.size, 0, none⟩) 1 1) (by rw [← e5]; rfl) (below_1 _ _) (OwnInK.made (World.ownsRow_lit W #[.int .i64 r.t, .int .i64 r.a, .int .i64 r.u, .int .i64 r.b] 1 (Nat.le_refl _) (by unfold maxLen; omega) rfl))
     case refine_8 => exact fun h => absurd (by decide) h
     case refine_9 =>
      intro _ _ vs lo hi W hB hv
      go_wp2
      exact RegPost.own _ rfl (Below.refl _ _) rfl
     case refine_10 =>
      intro _ _ vs lo hi W hB hv
      go_wp2
      exact RegPost.own _ rfl (Below.refl _ _) rfl
     case refine_11 =>
      intro _ _ vs lo hi W hB hv
      have e8 : vs 8 = .slice (some ⟨b, 0, none⟩) rs.length m := (hv ⟨8, .data⟩ (by simp) rfl).1
      have e9 : vs 9 = .int .i64 m := (hv ⟨9, .data⟩ (by simp) rfl).1
      simp only [e8, e9]
      go_wp2
      exact RegPost.own (.slice (some ⟨b, 0, none⟩) 0 0) (by rw [← e8, ← e9]; rfl) (Below.refl _ _) rfl
     case refine_12 => exact fun h => absurd (by decide) h
     case refine_13 => exact fun _ h => absurd h (by simp)
     case refine_14 => exact fun h => absurd h (by decide)
     case refine_15 => exact fun h => absurd h (by decide)
     case refine_16 => exact fun h => absurd h (by decide)
     case refine_17 => exact fun h => absurd h (by decide)
     case refine_18 => exact fun h => absurd h (by decide)
     case refine_19 => exact fun h => absurd h (by decide)
     case refine_20 => exact fun h => absurd h (by decide)
     case refine_21 => exact fun h => absurd h (by decide)
     case refine_22 =>
      intro _ _ q vs W hR hv
      go_wp2
      exact PurePost.mk' (.slice (some ⟨b, 0, none⟩) rs.length m) rfl rfl
     case refine_23 =>
      intro _ _ q vs W hR hv
      go_wp2
      exact PurePost.mk' (.int .i64 m) rfl rfl
     case refine_24 =>
      intro _ _ q vs W hR hv
      have e8 : vs 8 = .slice (some ⟨b, 0, none⟩) rs.length m := hv ⟨8, .data⟩ (by simp) rfl rfl
      have e9 : vs 9 = .int .i64 m := hv ⟨9, .data⟩ (by simp) rfl rfl
      simp only [e8, e9]
      go_wp2
      exact PurePost.mk' (.slice (some ⟨b, 0, none⟩) 0 0) (by rw [← e8, ← e9]; rfl) rfl
     case refine_25 => exact fun h => absurd h (by decide)
     case refine_26 => exact fun h => absurd h (by decide)
     case refine_27 =>
      intro o ho vs lo hi W hB hv
      obtain rfl := Option.some.inj ho
      obtain ⟨h4, g4, _, _⟩ := hv ⟨4, .data⟩ (by simp) rfl
      obtain ⟨h6, g6, _, _⟩ := hv ⟨6, .data⟩ (by simp) rfl
      have h4 : W.ownsRow (lo 4) 89 4 (vs 4) m (racesC (rs.take m)) := h4.1
      have h6 : W.ownsRow (lo 6) 89 4 (vs 6) 1 r.v := h6.1
      refine wpList_append_src rfl (.tmp 57) (.tmp 59) 28 rfl V2.heap.size 89 i9 (.agg #[.int .i64 0, .int .i64 0, .int .i64 0, .int .i64 0]) 4 32 Tryz.underlying28 hi9 hz9 hs9 hb9 rfl (by omega) (vs 4) m (racesC (rs.take m)) rfl (own_mono h4 g4) (vs 6) 1 r.v rfl (src_own h6 (by omega)) (by rw [← racesC_one]; exact racesC_one' _) (by unfold maxLen; omega) (by omega) hB.size ?_
      intro v' w' hown hgrow hat
      refine wpList_nil ?_
      refine ⟨v', rfl, hB.grown hgrow hB.size (fun j hj => (World.ownsRow.lt (own_mono h4 g4) j hj).1), ?_⟩
      rw [upd_same, racesC_append, racesC_one]
      exact hown
     case refine_28 =>
      intro q c o hq ho vs W hR hv
      match q, hq with
      | 0, hq =>
       obtain rfl : c = 11 := by simpa using hq.symm
       obtain rfl := Option.some.inj ho
       have e10 : vs 10 = .slice (some ⟨b, 0, none⟩) 0 0 := hv ⟨10, .data⟩ (by simp) rfl rfl
       obtain ⟨hB, hown7⟩ := hR
       refine wpList_append_src rfl (.tmp 60) (.tmp 63) 28 rfl V2.heap.size 89 i9 (.agg #[.int .i64 0, .int .i64 0, .int .i64 0, .int .i64 0]) 4 32 Tryz.underlying28 hi9 hz9 hs9 hb9 rfl (by omega) (vs 7) (m + 1) _ rfl hown7 (vs 10) (rs.length - m) (racesC (rs.drop m)) rfl (by rw [e10]; exact hsq.out W hB) (racesC_one' _) (by unfold maxLen; omega) (by omega) hB.size ?_
       intro v' w' hown hgrow hat
       refine wpList_nil ?_
       refine ChainPost.mk' v' rfl ⟨hB.grown hgrow hB.size (fun j hj => (World.ownsRow.lt hown7 j hj).1), ?_⟩
       rw [upd_same, racesC_append]
       exact hown
      | q + 1, hq => simp at hq
     case refine_29 =>
      intro o ho vs W hR hv
      obtain rfl := Option.some.inj ho
      obtain ⟨hB, hown⟩ := hR
      have hfin : Hid (RacesAt 0 W (vs 11) (insR rs r)) := by
       show W.ownsRow _ _ _ _ _ _
       rw [hins.out]
       have e : (rs.take m ++ [r] ++ rs.drop m).length = m + 1 + (rs.length - m) := by simp; omega
       rw [show (rs.take m ++ r :: rs.drop m) = rs.take m ++ [r] ++ rs.drop m by simp, e]
       exact own_mono hown (Nat.zero_le _)
      have hfb : Hid (Below w.heap.size w W) := below_on hRV2.out.hb hB
      clear hown hB
      go_wp2
      go_ret
      exact ⟨⟨_, rfl, hfin.out⟩, hfb.out⟩
    ·have hml2 : m < lc := by omega
     have hml3 : (m : Int) < lc := by omega
     go_wp2_with fail
     have hRc2 : Hid (∀ W, Below V2.heap.size V2 W → RcW w W w.heap.size r) := fun W hW => hRV2.out.on hW
     have hsp : Hid (∀ W, Below V2.heap.size V2 W → SrcAt W 4 (.slice (some ⟨b, 0, none⟩) m lc) m (racesC (rs.take m))) := fun W hW => src_pre (hRA2.out W hW) (by omega) _
     have hsq : Hid (∀ W, Below V2.heap.size V2 W → SrcAt W 4 (.slice (some ⟨b, m * 4, none⟩) (rs.length - m) (lc - m)) (rs.length - m) (racesC (rs.drop m))) := fun W hW => src_post (hRA2.out W hW) (by omega) _
     refine wp_region_mixed (by kernel_rfl) (fun vs => { tmps := #[Value.slice (some { block := b, off := 0 }) rs.length lc, Value.int IntKind.i64 t, Value.int IntKind.i64 i, Value.int IntKind.i64 u, Value.int IntKind.i64 k, undef, undef, undef, undef, undef, vs 12, Value.pointer (some { block := w.heap.size, off := 0 }), Value.int IntKind.i64 ↑m, Value.int IntKind.i64 t, Value.int IntKind.i64 i, Value.int IntKind.i64 u, Value.int IntKind.i64 k, Value.agg #[Value.int IntKind.i64 t, Value.int IntKind.i64 i, Value.int IntKind.i64 u, Value.int IntKind.i64 k], Value.int IntKind.i64 u, Value.int IntKind.i64 t, Value.bool false, undef, undef, undef, undef, undef, Value.int IntKind.i64 ↑m, Value.slice (some { block := b, off := 0 }) rs.length lc, Value.int IntKind.i64 ↑rs.length, Value.bool false, Value.bool false, undef, undef, undef, undef, undef, undef, Value.bool false, u38, u39, Value.int IntKind.i64 ↑m, Value.slice (some { block := b, off := 0 }) rs.length lc, Value.int IntKind.i64 ↑rs.length, Value.bool false, Value.bool false, undef, undef, undef, undef, undef, undef, Value.bool false, undef, vs 0, vs 1, vs 2, vs 3, vs 4, vs 5, vs 6, vs 7, vs 8, vs 9, vs 10, vs 11], defers := [] }) (insVal (.slice (some ⟨b, 0, none⟩) rs.length lc) (.slice (some ⟨b, 0, none⟩) m lc) (.slice (some ⟨b, m * 4, none⟩) (rs.length - m) (lc - m)) r rs m) insSrc (fun i i' j h h' => by have := insSrc_cases h; have := insSrc_cases h'; omega) (fun i j h => by have := insSrc_cases h; rw [this.2]; rfl) 7 [11] insPure (insPV (.slice (some ⟨b, 0, none⟩) rs.length lc) (.slice (some ⟨b, m * 4, none⟩) (rs.length - m) (lc - m)) m) (insRR V2.heap.size V2 r rs m) (fun i => if i = 12 then Value.slice none 0 0 else undef) rfl (by kernel_rfl) (insVal_below _ _ _ r rs m) (fun i v lo hi w hp h => by rcases insPure_cases hp with rfl | rfl | rfl <;> exact h) (insRR_loc _ _ r rs m) (allAt_all ⟨?_, ?_, ?_, ?_, ?_, ?_, ?_, ?_, ?_, ?_, ?_, ?_, ?_, trivial⟩) (allAt_all ⟨?_, ?_, ?_, ?_, ?_, ?_, ?_, ?_, ?_, ?_, ?_, ?_, ?_, trivial⟩) ?_ ?_ ?_
     case refine_1 =>
      intro _ _ vs lo hi W hB hv
      go_wp2
      exact RegPost.own _ rfl (below_1 _ _) ⟨rfl, OwnInK.made (World.ownsRow_made W #[] 0 (Nat.le_refl _) (by unfold maxLen; omega) rfl)⟩
     case refine_2 =>
      intro _ _ vs lo hi W hB hv
      go_wp2
      exact RegPost.own _ rfl (Below.refl _ _) rfl
     case refine_3 =>
      intro _ _ vs lo hi W hB hv
      go_wp2
      exact RegPost.own _ rfl (Below.refl _ _) rfl
     case refine_4 =>
      intro _ _ vs lo hi W hB hv
      have e1 : vs 1 = .slice (some ⟨b, 0, none⟩) rs.length lc := (hv ⟨1, .data⟩ (by simp) rfl).1
      have e2 : vs 2 = .int .i64 m := (hv ⟨2, .data⟩ (by simp) rfl).1
      simp only [e1, e2]
      go_wp2
      exact RegPost.own (.slice (some ⟨b, 0, none⟩) m lc) (by rw [← e1, ← e2]; rfl) (Below.refl _ _) rfl
     case refine_5 =>
      intro _ _ vs lo hi W hB hv
      obtain ⟨⟨q0, q1⟩, _, _, _⟩ := hv ⟨0, .data⟩ (by simp) rfl
      have q0 : vs 0 = .slice (some ⟨lo 0, 0, none⟩) 0 0 := q0
      have q1 : OwnInK (lo 0) (hi 0) W 89 4 (vs 0) 0 [] := q1
      have e3 : vs 3 = .slice (some ⟨b, 0, none⟩) m lc := (hv ⟨3, .data⟩ (by simp) rfl).1
      refine wpList_append_src0 rfl (.tmp 53) (.tmp 56) 28 rfl 89 i9 (.agg #[.int .i64 0, .int .i64 0, .int .i64 0, .int .i64 0]) 4 32 Tryz.underlying28 hi9 hz9 hs9 hb9 rfl (by omega) (lo 0) q0 (vs 3) m (racesC (rs.take m)) rfl (by rw [e3]; exact hsp.out W hB) (racesC_one' _) (by unfold maxLen; omega) (by omega) (fun m0 n0 => ?_) (fun v1 w1 hown hgrow => ?_)
      ·refine wpList_nil ?_
       refine RegPost.take (.slice (some ⟨lo 0, 0, none⟩) 0 0) ⟨0, .data⟩ rfl (by simp) rfl rfl (Below.refl _ _) ?_
       show OwnInK (lo 0) (hi 0) W 89 4 _ m (racesC (rs.take m))
       rw [n0, m0, ← q0]
       exact q1
      ·refine wpList_nil ?_
       exact RegPost.own v1 rfl ((Below.refl _ _).grown hgrow (Nat.le_refl _) (fun j hj => by cases hj)) (OwnInK.made hown)
     case refine_6 =>
      intro _ _ vs lo hi W hB hv
      obtain ⟨_, _, _, b0, b1', b2, b3⟩ := hRc2.out W hB
      go_wp2
      exact RegPost.own (.agg #[.int .i64 r.t, .int .i64 r.a, .int .i64 r.u, .int .i64 r.b]) rfl (Below.refl _ _) rfl
     case refine_7 =>
      intro _ _ vs lo hi W hB hv
      have e5 : vs 5 = .agg #[.int .i64 r.t, .int .i64 r.a, .int .i64 r.u, .int .i64 r.b] := (hv ⟨5, .data⟩ (by simp) rfl).1
      simp only [e5]
      go_wp2
      exact RegPost.own (.slice (some ⟨W.heap.size, 0, none⟩) 1 1) (by rw [← e5]; rfl) (below_1 _ _) (OwnInK.made (World.ownsRow_lit W #[.int .i64 r.t, .int .i64 r.a, .int .i64 r.u, .int .i64 r.b] 1 (Nat.le_refl _) (by unfold maxLen; omega) rfl))
     case refine_8 => exact fun h => absurd (by decide) h
     case refine_9 =>
      intro _ _ vs lo hi W hB hv
      go_wp2
      exact RegPost.own _ rfl (Below.refl _ _) rfl
     case refine_10 =>
      intro _ _ vs lo hi W hB hv
      go_wp2
      exact RegPost.own _ rfl (Below.refl _ _) rfl
     case refine_11 =>
      intro _ _ vs lo hi W hB hv
      have e8 : vs 8 = .slice (some ⟨b, 0, none⟩) rs.length lc := (hv ⟨8, .data⟩ (by simp) rfl).1
      have e9 : vs 9 = .int .i64 m := (hv ⟨9, .data⟩ (by simp) rfl).1
      simp only [e8, e9]
      go_wp2
      exact RegPost.own (.slice (some ⟨b, m * 4, none⟩) (rs.length - m) (lc - m)) (by rw [← e8, ← e9]; rfl) (Below.refl _ _) rfl
     case refine_12 => exact fun h => absurd (by decide) h
     case refine_13 => exact fun _ h => absurd h (by simp)
     case refine_14 => exact fun h => absurd h (by decide)
     case refine_15 => exact fun h => absurd h (by decide)
     case refine_16 => exact fun h => absurd h (by decide)
     case refine_17 => exact fun h => absurd h (by decide)
     case refine_18 => exact fun h => absurd h (by decide)
     case refine_19 => exact fun h => absurd h (by decide)
     case refine_20 => exact fun h => absurd h (by decide)
     case refine_21 => exact fun h => absurd h (by decide)
     case refine_22 =>
      intro _ _ q vs W hR hv
      go_wp2
      exact PurePost.mk' (.slice (some ⟨b, 0, none⟩) rs.length lc) rfl rfl
     case refine_23 =>
      intro _ _ q vs W hR hv
      go_wp2
      exact PurePost.mk' (.int .i64 m) rfl rfl
     case refine_24 =>
      intro _ _ q vs W hR hv
      have e8 : vs 8 = .slice (some ⟨b, 0, none⟩) rs.length lc := hv ⟨8, .data⟩ (by simp) rfl rfl
      have e9 : vs 9 = .int .i64 m := hv ⟨9, .data⟩ (by simp) rfl rfl
      simp only [e8, e9]
      go_wp2
      exact PurePost.mk' (.slice (some ⟨b, m * 4, none⟩) (rs.length - m) (lc - m)) (by rw [← e8, ← e9]; rfl) rfl
     case refine_25 => exact fun h => absurd h (by decide)
     case refine_26 => exact fun h => absurd h (by decide)
     case refine_27 =>
      intro o ho vs lo hi W hB hv
      obtain rfl := Option.some.inj ho
      obtain ⟨h4, g4, _, _⟩ := hv ⟨4, .data⟩ (by simp) rfl
      obtain ⟨h6, g6, _, _⟩ := hv ⟨6, .data⟩ (by simp) rfl
      have h4 : W.ownsRow (lo 4) 89 4 (vs 4) m (racesC (rs.take m)) := h4.1
      have h6 : W.ownsRow (lo 6) 89 4 (vs 6) 1 r.v := h6.1
      refine wpList_append_src rfl (.tmp 57) (.tmp 59) 28 rfl V2.heap.size 89 i9 (.agg #[.int .i64 0, .int .i64 0, .int .i64 0, .int .i64 0]) 4 32 Tryz.underlying28 hi9 hz9 hs9 hb9 rfl (by omega) (vs 4) m (racesC (rs.take m)) rfl (own_mono h4 g4) (vs 6) 1 r.v rfl (src_own h6 (by omega)) (by rw [← racesC_one]; exact racesC_one' _) (by unfold maxLen; omega) (by omega) hB.size ?_
      intro v' w' hown hgrow hat
      refine wpList_nil ?_
      refine ⟨v', rfl, hB.grown hgrow hB.size (fun j hj => (World.ownsRow.lt (own_mono h4 g4) j hj).1), ?_⟩
      rw [upd_same, racesC_append, racesC_one]
      exact hown
     case refine_28 =>
      intro q c o hq ho vs W hR hv
      match q, hq with
      | 0, hq =>
       obtain rfl : c = 11 := by simpa using hq.symm
       obtain rfl := Option.some.inj ho
       have e10 : vs 10 = .slice (some ⟨b, m * 4, none⟩) (rs.length - m) (lc - m) := hv ⟨10, .data⟩ (by simp) rfl rfl
       obtain ⟨hB, hown7⟩ := hR
       refine wpList_append_src rfl (.tmp 60) (.tmp 63) 28 rfl V2.heap.size 89 i9 (.agg #[.int .i64 0, .int .i64 0, .int .i64 0, .int .i64 0]) 4 32 Tryz.underlying28 hi9 hz9 hs9 hb9 rfl (by omega) (vs 7) (m + 1) _ rfl hown7 (vs 10) (rs.length - m) (racesC (rs.drop m)) rfl (by rw [e10]; exact hsq.out W hB) (racesC_one' _) (by unfold maxLen; omega) (by omega) hB.size ?_
       intro v' w' hown hgrow hat
       refine wpList_nil ?_
       refine ChainPost.mk' v' rfl ⟨hB.grown hgrow hB.size (fun j hj => (World.ownsRow.lt hown7 j hj).1), ?_⟩
       rw [upd_same, racesC_append]
       exact hown
      | q + 1, hq => simp at hq
     case refine_29 =>
      intro o ho vs W hR hv
      obtain rfl := Option.some.inj ho
      obtain ⟨hB, hown⟩ := hR
      have hfin : Hid (RacesAt 0 W (vs 11) (insR rs r)) := by
       show W.ownsRow _ _ _ _ _ _
       rw [hins.out]
       have e : (rs.take m ++ [r] ++ rs.drop m).length = m + 1 + (rs.length - m) := by simp; omega
       rw [show (rs.take m ++ r :: rs.drop m) = rs.take m ++ [r] ++ rs.drop m by simp, e]
       exact own_mono hown (Nat.zero_le _)
      have hfb : Hid (Below w.heap.size w W) := below_on hRV2.out.hb hB
      clear hown hB
      go_wp2
      go_ret
      exact ⟨⟨_, rfl, hfin.out⟩, hfb.out⟩
end Go.Proofs.YtknbchheoloaoaaGreat
