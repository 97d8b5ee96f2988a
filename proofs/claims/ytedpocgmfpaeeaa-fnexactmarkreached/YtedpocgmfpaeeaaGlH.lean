/- The lists of the specification: is an Id there, and set in its place. -/
import Derived.Test.YtedpocgmfpaeeaaGlP
import Derived.Test.YtedpocgmfpaeeaaGlB
import Derived.Test.YtedpocgmfpaeeaaRg
import Derived.Maps.AppendAt
import Derived.ArgAppend
import Derived.Laws.OwnMore
import Derived.Deep.QuietTactic
namespace Go.Proofs.Ytedpocgmfpaeeaa
set_option linter.unusedVariables false
open Go.ChangeShapes Go.WideShapes Go.ChangeAt Go.RowKit
theorem own_kept {w w' : World} {base : Nat} {e : TypeId} {size : Nat} {v : Value} {n : Nat} {xs : List Value} (h : w.ownsRow base e size v n xs) (hk : ∀ g, v.ownBlock = some g → w'.heap[g]? = w.heap[g]?) : w'.ownsRow base e size v n xs := by
  refine ⟨h.1, ?_⟩
  rcases h.2 with h' | ⟨g, cap, cur, rfl, hb, hg, h1, h2, h3, h4⟩
  · exact .inl h'
  · exact .inr ⟨g, cap, cur, rfl, hb, by rw [hk g rfl]; exact hg, h1, h2, h3, h4⟩
theorem own_mono {w : World} {base base' : Nat} {e : TypeId} {size : Nat} {v : Value} {n : Nat} {xs : List Value} (h : w.ownsRow base e size v n xs) (hb : base' ≤ base) : w.ownsRow base' e size v n xs := by
  refine ⟨h.1, ?_⟩
  rcases h.2 with h' | ⟨g, cap, cur, rfl, hg, rest⟩
  · exact .inl h'
  · exact .inr ⟨g, cap, cur, rfl, by omega, rest⟩
theorem own_from {w : World} {base base' : Nat} {e : TypeId} {size : Nat} {v : Value} {n : Nat} {xs : List Value} (h : w.ownsRow base e size v n xs) (hb : ∀ g, v.ownBlock = some g → base' ≤ g) : w.ownsRow base' e size v n xs := by
  refine ⟨h.1, ?_⟩
  rcases h.2 with h' | ⟨g, cap, cur, rfl, hg, rest⟩
  · exact .inl h'
  · exact .inr ⟨g, cap, cur, rfl, hb g rfl, rest⟩
theorem own_below {w w' : World} {B base : Nat} {e : TypeId} {size : Nat} {v : Value} {n : Nat} {xs : List Value} (h : w.ownsRow base e size v n xs) (hb : Below B w w') (hlt : ∀ g, v.ownBlock = some g → g < B) : w'.ownsRow base e size v n xs :=
  own_kept h fun g hg => hb.block g (hlt g hg)
theorem own_form {w : World} {base : Nat} {e : TypeId} {size : Nat} {v : Value} {n : Nat} {xs : List Value} (h : w.ownsRow base e size v n xs) : ∃ a c, v = .slice a n c := by
  rcases h.2 with ⟨rfl, rfl⟩ | ⟨g, cap, cur, rfl, _⟩
  · exact ⟨_, _, rfl⟩
  · exact ⟨_, _, rfl⟩
theorem own_some {w : World} {base : Nat} {e : TypeId} {size : Nat} {v : Value} {n : Nat} {xs : List Value} (h : w.ownsRow base e size v n xs) (hn : 0 < n) : ∃ g c, v = .slice (some ⟨g, 0, none⟩) n c := by
  rcases h.2 with ⟨rfl, rfl⟩ | ⟨g, cap, cur, rfl, _⟩
  · omega
  · exact ⟨_, _, rfl⟩
theorem own_cap {w : World} {base : Nat} {e : TypeId} {size : Nat} {a : Option Addr} {n c : Nat} {m : Nat} {xs : List Value} (h : w.ownsRow base e size (.slice a m c) n xs) : m ≤ c := by
  rcases h.2 with ⟨h1, h2⟩ | ⟨g, cap, cur, h1, _, _, h3, _⟩
  · injection h1 with _ e1 e2; omega
  · injection h1 with _ e1 e2; omega
theorem own_len {w : World} {base : Nat} {e : TypeId} {v : Value} {n : Nat} {xs : List Value} (h : w.ownsRow base e 1 v n xs) : xs.length = n := by have := h.1; omega

def intsV (zs : List Int) : List Value := zs.map (Value.int .i64)
theorem intsV_one (zs : List Int) : ∀ u ∈ intsV zs, u.oneCell' = true := fun u hu => by
  obtain ⟨z, _, rfl⟩ := List.mem_map.1 hu
  rfl
theorem intsV_length (zs : List Int) : (intsV zs).length = zs.length * 1 := by simp [intsV]
theorem intsV_append (a b : List Int) : intsV (a ++ b) = intsV a ++ intsV b := by simp [intsV]
/-- A list of the specification's in memory. -/
def OutAt (B : Nat) (w : World) (v : Value) (zs : List Int) : Prop := w.ownsRow B 2 1 v zs.length (intsV zs)
theorem OutAt.below {B : Nat} {w w' : World} {v : Value} {zs : List Int} (h : OutAt B w v zs) (hb : Below w.heap.size w w') : OutAt B w' v zs := own_below h hb fun g hg => (World.ownsRow.lt h g hg).2
theorem OutAt.cell {w : World} {B g n c : Nat} {zs : List Int} (h : OutAt B w (.slice (some ⟨g, 0, none⟩) n c) zs) {j : Nat} (hj : j < zs.length) : w.cell? ⟨g, j, none⟩ = some (.int .i64 zs[j]) := by
  have hn : n = zs.length := by obtain ⟨a', c', e⟩ := own_form h; injection e
  subst hn
  rw [World.ownsRow.cellAt h j (by omega)]
  simp [intsV, hj]
/-- What is appended: nothing of a nil slice, or cells at an address. -/
def SrcAt (w : World) (size : Nat) (xv : Value) (m : Nat) (news : List Value) : Prop := (xv = .slice none 0 0 ∧ m = 0 ∧ news = []) ∨ ∃ ad c, xv = .slice (some ad) m c ∧ news.length = m * size ∧ ∀ j u, news[j]? = some u → w.cell? (ad.add j) = some u
theorem wpList_append_src {P : Program} {w : World} {ops : Array Oper} {rest : List Oper} {o : Oper} {a : Act} {Q : Exit → Act → World → Prop} (hgd : o.guard = none) (s x : Operand) (t : TypeId)
    (ho : o.op = .call { callee := .builtin .append, args := #[s, x], argTypes := #[t, t] })
    (base : Nat) (e : TypeId) (i : TypeInfo) (z : Value) (size bytes : Nat) (ht : P.underlying t = some (.slice e)) (hi : P.info? e = some i) (hz : i.zero = some z)
    (hsize : i.size = size) (hby : i.bytes = bytes) (hzs : z.cells.size = size) (hsz : 0 < size)
    (v : Value) (n : Nat) (xs : List Value) (hs : a.eval s = v) (hown : w.ownsRow base e size v n xs)
    (xv : Value) (m : Nat) (news : List Value) (hx : a.eval x = xv) (hsrc : SrcAt w size xv m news) (h1 : ∀ u ∈ news, u.oneCell' = true)
    (h63 : n + m ≤ maxLen) (hbytes : (n + m) * bytes ≤ 140737488355328) (hbase : base ≤ w.heap.size)
    (h : ∀ v' w', w'.ownsRow base e size v' (n + m) (xs ++ news) → w.grownBy w' v.ownBlock → (v'.ownBlock = v.ownBlock ∨ v'.ownBlock = some w.heap.size) → wpList P ops Q rest (a.put o.dst v') w') :
    wpList P ops Q (o :: rest) a w := by
  rcases hsrc with ⟨e1, e2, e3⟩ | ⟨ad, c, e1, hl, hc⟩
  · subst e1; subst e2; subst e3
    refine wpList_plain hgd fun K hK => ?_
    have hr := run_append_owned_none (P := P) w base t o.type e i size ht hi v n xs hown
    unfold Oper.wp execOp
    simp only [ho, resolve, invoke, builtin, Sem.run_bind, Sem.run_pure, Result.andThen_ok, List.map_toArray, List.map_cons, List.map_nil, hs, hx, hr]
    exact hK _ _ (h v w (by rw [List.append_nil]; exact hown) ⟨rfl, rfl, rfl, Nat.le_refl _, fun _ _ _ => rfl⟩ (.inl rfl))
  · subst e1
    exact wpList_append_own_at w hgd s x t ho base e i z size bytes ht hi hz hsize hby hzs hsz v n xs hs hown ad m c news hx hl hc h1 h63 hbytes hbase (fun v' w' a1 a2 _ a4 => h v' w' a1 a2 a4)
theorem wpList_append_src0 {P : Program} {w : World} {ops : Array Oper} {rest : List Oper} {o : Oper} {a : Act} {Q : Exit → Act → World → Prop} (hgd : o.guard = none) (s x : Operand) (t : TypeId)
    (ho : o.op = .call { callee := .builtin .append, args := #[s, x], argTypes := #[t, t] })
    (e : TypeId) (i : TypeInfo) (z : Value) (size bytes : Nat) (ht : P.underlying t = some (.slice e)) (hi : P.info? e = some i) (hz : i.zero = some z)
    (hsize : i.size = size) (hby : i.bytes = bytes) (hzs : z.cells.size = size) (hsz : 0 < size)
    (b : Nat) (hs : a.eval s = .slice (some ⟨b, 0, none⟩) 0 0)
    (xv : Value) (m : Nat) (news : List Value) (hx : a.eval x = xv) (hsrc : SrcAt w size xv m news) (h1 : ∀ u ∈ news, u.oneCell' = true)
    (h63 : m ≤ maxLen) (hbytes : m * bytes ≤ 140737488355328)
    (hK1 : m = 0 → news = [] → wpList P ops Q rest (a.put o.dst (.slice (some ⟨b, 0, none⟩) 0 0)) w)
    (hK2 : ∀ v' w', w'.ownsRow w.heap.size e size v' m news → w.grownBy w' none → wpList P ops Q rest (a.put o.dst v') w') :
    wpList P ops Q (o :: rest) a w := by
  rcases hsrc with ⟨e1, e2, e3⟩ | ⟨ad, c, e1, hl, hc⟩
  · subst e1; subst e2; subst e3
    refine wpList_plain hgd fun K hK => ?_
    have hr : (Builtin.append_ #[t, t] o.type #[.slice (some ⟨b, 0, none⟩) 0 0, .slice none 0 0]).run P w = .ok (.slice (some ⟨b, 0, none⟩) 0 0) w := by
      simp [Builtin.append_, run_underlying ht, sizeOf, typeInfo, hi, Builtin.lenOf, Builtin.firstCells, storeCells]
    unfold Oper.wp execOp
    simp only [ho, resolve, invoke, builtin, Sem.run_bind, Sem.run_pure, Result.andThen_ok, List.map_toArray, List.map_cons, List.map_nil, hs, hx, hr]
    exact hK _ _ (hK1 rfl rfl)
  · subst e1
    refine wpList_append_arg w hgd s x t ho e i z size bytes ht hi hz hsize hby hzs hsz b 0 0 0 [] hs (by simp) (fun j u hj => by simp at hj) ad m c news hx hl hc h1 (fun h j hj => absurd hj (by rw [hl, show m = 0 by omega]; omega)) (by omega) (by simpa using hbytes) (fun h => ?_) (fun h v' w' a1 a2 => hK2 v' w' (by simpa using a1) a2)
    have hm : m = 0 := by omega
    have hnil : news = [] := List.eq_nil_of_length_eq_zero (by rw [hl, hm]; simp)
    have := hK1 hm hnil
    subst hm
    subst hnil
    exact this
def OwnInK (lo hi : Nat) (w : World) (e size : Nat) (v : Value) (n : Nat) (xs : List Value) : Prop := w.ownsRow lo e size v n xs ∧ ∀ g, v.ownBlock = some g → g < hi
theorem OwnInK.below {lo hi : Nat} {w w' : World} {e size : Nat} {v : Value} {n : Nat} {xs : List Value} (h : OwnInK lo hi w e size v n xs) (hb : Below w.heap.size w w') (hh : hi ≤ w.heap.size) : OwnInK lo hi w' e size v n xs :=
  ⟨own_below h.1 hb fun g hg => by have := h.2 g hg; omega, h.2⟩
theorem OwnInK.made {w w' : World} {e size : Nat} {v : Value} {n : Nat} {xs : List Value} (h : w'.ownsRow w.heap.size e size v n xs) : OwnInK w.heap.size w'.heap.size w' e size v n xs := ⟨h, fun g hg => (World.ownsRow.lt h g hg).2⟩
theorem src_pre {w : World} {B b n c : Nat} {rs : List Int} (h : OutAt B w (.slice (some ⟨b, 0, none⟩) n c) rs) {m : Nat} (hm : m ≤ rs.length) (cc : Nat) : SrcAt w 1 (.slice (some ⟨b, 0, none⟩) m cc) m (intsV (rs.take m)) := by
  refine .inr ⟨⟨b, 0, none⟩, cc, rfl, by rw [intsV_length]; simp; omega, fun j u hj => World.ownsRow.cells h rfl j u ?_⟩
  have e : intsV rs = intsV (rs.take m) ++ intsV (rs.drop m) := by rw [← intsV_append, List.take_append_drop]
  rw [e, List.getElem?_append_left (List.getElem?_eq_some_iff.1 hj).1]; exact hj
theorem src_post {w : World} {B b n c : Nat} {rs : List Int} (h : OutAt B w (.slice (some ⟨b, 0, none⟩) n c) rs) {m o : Nat} (hm : m ≤ rs.length) (ho : m < rs.length → o = m) (cc : Nat) : SrcAt w 1 (.slice (some ⟨b, o, none⟩) (rs.length - m) cc) (rs.length - m) (intsV (rs.drop m)) := by
  refine .inr ⟨⟨b, o, none⟩, cc, rfl, by rw [intsV_length]; simp, fun j u hj => ?_⟩
  have hjl : j < (intsV (rs.drop m)).length := (List.getElem?_eq_some_iff.1 hj).1
  have hml : m < rs.length := by rw [intsV_length] at hjl; simp at hjl; omega
  have e0 := ho hml
  subst e0
  have e : intsV rs = intsV (rs.take o) ++ intsV (rs.drop o) := by rw [← intsV_append, List.take_append_drop]
  have hl : (intsV (rs.take o)).length = o := by rw [intsV_length]; simp; omega
  have := World.ownsRow.cells h rfl (o + j) u (by rw [e, List.getElem?_append_right (by omega), hl, show o + j - o = j by omega]; exact hj)
  rw [Addr.add_lit] at this ⊢
  simpa [Nat.add_assoc] using this
theorem src_own {w : World} {B : Nat} {v : Value} {n : Nat} {xs : List Value} (h : w.ownsRow B 2 1 v n xs) (hn : 0 < n) : SrcAt w 1 v n xs := by
  obtain ⟨g, c, rfl⟩ := own_some h hn
  exact .inr ⟨⟨g, 0, none⟩, c, rfl, h.1, fun j u hj => World.ownsRow.cells h rfl j u hj⟩
/-- The values of the region that sets a race in its place. -/
def insVal (lv pre post : Value) (r : Int) (rs : List Int) (m : Nat) : Nat → Value → Nat → Nat → World → Prop
  | 0, v, lo, hi, w => v = .slice (some ⟨lo, 0, none⟩) 0 0 ∧ OwnInK lo hi w 2 1 v 0 []
  | 1, v, _, _, _ => v = lv
  | 2, v, _, _, _ => v = .int .i64 m
  | 3, v, _, _, _ => v = pre
  | 4, v, lo, hi, w => OwnInK lo hi w 2 1 v m (intsV (rs.take m))
  | 5, v, _, _, _ => v = .int .i64 r
  | 6, v, lo, hi, w => OwnInK lo hi w 2 1 v 1 (intsV [r])
  | 8, v, _, _, _ => v = lv
  | 9, v, _, _, _ => v = .int .i64 m
  | _, v, _, _, _ => v = post
theorem insVal_below (lv pre post : Value) (r : Int) (rs : List Int) (m : Nat) : ∀ i v lo hi (w w' : World), Below w.heap.size w w' → hi ≤ w.heap.size → insVal lv pre post r rs m i v lo hi w → insVal lv pre post r rs m i v lo hi w' := by
  intro i v lo hi w w' hb hh h
  match i, h with
  | 0, h => exact ⟨h.1, OwnInK.below h.2 hb hh⟩
  | 1, h => exact h
  | 2, h => exact h
  | 3, h => exact h
  | 4, h => exact OwnInK.below h hb hh
  | 5, h => exact h
  | 6, h => exact OwnInK.below h hb hh
  | 7, h => exact h
  | 8, h => exact h
  | 9, h => exact h
  | i + 10, h => exact h
def insPV (lv post : Value) (m : Nat) : Nat → Value → Prop
  | 8, v => v = lv
  | 9, v => v = .int .i64 m
  | 10, v => v = post
  | _, _ => True
def insPure : Nat → Bool
  | 8 => true
  | 9 => true
  | 10 => true
  | _ => false
theorem insPure_cases {i : Nat} (h : insPure i = true) : i = 8 ∨ i = 9 ∨ i = 10 := by
  unfold insPure at h
  split at h <;> simp_all
def insSrc : Nat → Option Nat
  | 4 => some 0
  | _ => none
theorem insSrc_cases {i j : Nat} (h : insSrc i = some j) : i = 4 ∧ j = 0 := by
  unfold insSrc at h
  split at h <;> simp_all
def insRR (B : Nat) (w0 : World) (r : Int) (rs : List Int) (m : Nat) : Nat → (Nat → Value) → World → Prop
  | 0, vs, W => Below B w0 W ∧ W.ownsRow B 2 1 (vs 7) (m + 1) (intsV (rs.take m ++ [r]))
  | _, vs, W => Below B w0 W ∧ W.ownsRow B 2 1 (vs 11) (m + 1 + (rs.length - m)) (intsV (rs.take m ++ [r] ++ rs.drop m))
theorem insRR_loc (B : Nat) (w0 : World) (r : Int) (rs : List Int) (m : Nat) : ∀ k vs i v w, insPure i = true → insRR B w0 r rs m k vs w → insRR B w0 r rs m k (upd vs i v) w := by
  intro k vs i v w hp h
  have hi := insPure_cases hp
  have e7 : upd vs i v 7 = vs 7 := upd_other _ _ (by omega)
  have e11 : upd vs i v 11 = vs 11 := upd_other _ _ (by omega)
  match k, h with
  | 0, h => exact ⟨h.1, by rw [e7]; exact h.2⟩
  | _ + 1, h => exact ⟨h.1, by rw [e11]; exact h.2⟩


set_option maxRecDepth 1000000 in
set_option maxHeartbeats 1000000 in
theorem has_calls (v : Value) (zs : List Int) (n : Int) (w : World) (B : Nat) (h : OutAt B w v zs) (hl : zs.length ≤ 1048576) : Calls Try.prog 22 #[v, .int .i64 n] w fun e w' => e = .returned (.bool (decide (n ∈ zs))) ∧ w' = w := by
  obtain ⟨a, c, rfl⟩ := own_form h
  have hH : Hid (OutAt B w (.slice a zs.length c) zs) := h
  have hR0 : Hid (decide (n ∈ zs) = decide (n ∈ zs.drop 0)) := rfl
  generalize decide (n ∈ zs) = R at hR0 ⊢
  clear h
  go_enter Try.func22, Try.ntmps22
  go_wp2
  go_loopw [5] (fun i wr => ∃ m : Nat, m ≤ zs.length ∧ i = .int .i64 m ∧ w = wr ∧ Hid (R = decide (n ∈ zs.drop m))) (fun i _ => zs.length - (intOf i).toNat)
  case atStart => exact ⟨0, Nat.zero_le _, rfl, rfl, hR0⟩
  case round =>
    obtain ⟨m, hm, rfl, hw, hR⟩ := hrel
    subst hw
    rename World => wr
    clear hR0
    by_cases hlt : m < zs.length
    · have hlt' : (m : Int) < (zs.length : Int) := by omega
      have hm0 : (0 : Int) ≤ m := by omega
      obtain ⟨g, c', e⟩ := own_some hH.out (by omega)
      injection e with e1 e2 e3
      subst e1
      have q : wr.cell? ⟨g, m, none⟩ = some (.int .i64 zs[m]) := hH.out.cell hlt
      have hR2 : Hid (R = decide (n ∈ zs[m] :: zs.drop (m + 1))) := by show _ = _; rw [hR.out, List.drop_eq_getElem_cons hlt]
      generalize zs[m] = z at q hR2
      clear hR e2 e3
      by_cases hz : z = n
      · subst hz
        have hzz : (z == z) = true := by simp
        have hR3 : Hid (R = true) := by show _ = _; rw [hR2.out]; simp
        clear hR2
        go_wp2
        go_ret
        exact ⟨by rw [hR3.out]; rfl, rfl⟩
      · have hzz : (z == n) = false := by simpa using hz
        have hR3 : Hid (R = decide (n ∈ zs.drop (m + 1))) := by show _ = _; rw [hR2.out]; simp [Ne.symm hz]
        clear hR2
        go_wp2
        go_roundw
        case rel => exact ⟨m + 1, by omega, by go_num, by first | trivial | rfl, hR3⟩
        case measure => simp [intOf]; omega
    · have hR3 : Hid (R = false) := by show _ = _; rw [hR.out, List.drop_eq_nil_of_le (by omega)]; simp
      clear hR
      go_wp2
      go_ret
      exact ⟨by rw [hR3.out]; rfl, by first | trivial | rfl⟩

set_option maxRecDepth 1000000 in
set_option maxHeartbeats 4000000 in
theorem add_some (b lc : Nat) (rs : List Int) (r : Int) (V2 : World) (B : Nat) (h : OutAt B V2 (.slice (some ⟨b, 0, none⟩) rs.length lc) rs) (hn : rs.length ≤ 1048576) :
    Calls Try.prog 23 #[.slice (some ⟨b, 0, none⟩) rs.length lc, .int .i64 r] V2 fun e w' => (∃ g c, e = .returned (.slice (some ⟨g, 0, none⟩) (rs.length + 1) c) ∧ OutAt V2.heap.size w' (.slice (some ⟨g, 0, none⟩) (rs.length + 1) c) (addI rs r)) ∧ Below V2.heap.size V2 w' := by
  obtain ⟨i9, hi9, hz9, hs9, hb9⟩ := info_parts (show (Try.prog.info? 2).map (fun i => (i.zero, i.size, i.bytes)) = some (some (.int .i64 0), 1, 8) by kernel_rfl)
  have hRA2 : Hid (∀ W, Below V2.heap.size V2 W → OutAt B W (.slice (some ⟨b, 0, none⟩) rs.length lc) rs) := fun W hW => h.below hW
  have hcap : rs.length ≤ lc := own_cap h
  have hp0 : Hid (0 + atI (rs.drop 0) r = atI rs r) := by show _ = _; simp
  clear h
  go_enter Try.func23, Try.ntmps23
  go_wp2
  go_loopw [5] (fun i wr => ∃ m : Nat, m ≤ rs.length ∧ i = .int .i64 m ∧ V2 = wr ∧ Hid (m + atI (rs.drop m) r = atI rs r)) (fun i _ => rs.length - (intOf i).toNat)
  case atStart => exact ⟨0, Nat.zero_le _, rfl, rfl, hp0⟩
  case round =>
    obtain ⟨m, hm, rfl, hw, hp⟩ := hrel
    subst hw
    rename World => V2
    clear hp0
    have hm0 : (0 : Int) ≤ m := by omega
    have hmc : (m : Int) ≤ lc := by omega
    by_cases hlt : m < rs.length
    · have hlt' : (m : Int) < (rs.length : Int) := by omega
      have q : V2.cell? ⟨b, m, none⟩ = some (.int .i64 rs[m]) := (hRA2.out V2 (Below.refl _ _)).cell hlt
      have hp1 : Hid (m + (if rs[m] < r then atI (rs.drop (m + 1)) r + 1 else 0) = atI rs r) := by show _ = _; rw [← atI_cons, ← List.drop_eq_getElem_cons hlt]; exact hp.out
      generalize rs[m] = z at q hp1
      clear hp
      by_cases hz : z < r
      · have hp2 : Hid (m + 1 + atI (rs.drop (m + 1)) r = atI rs r) := by
          have := hp1.out
          rw [if_pos hz] at this
          show _ = _
          omega
        clear hp1
        go_wp2
        go_roundw
        case rel => exact ⟨m + 1, by omega, by go_num, by first | trivial | rfl, hp2⟩
        case measure => simp [intOf]; omega
      · have hins : Hid (addI rs r = rs.take m ++ r :: rs.drop m) := by
          have := hp1.out
          rw [if_neg hz] at this
          show _ = _
          unfold addI
          rw [← this]
          rfl
        have hmc3 : (m : Int) < lc := by omega
        clear hp1
        go_upto_region 4 with fail
        have hsp : Hid (∀ W, Below V2.heap.size V2 W → SrcAt W 1 (.slice (some ⟨b, 0, none⟩) m lc) m (intsV (rs.take m))) := fun W hW => src_pre (hRA2.out W hW) (by omega) _
        have hsq : Hid (∀ W, Below V2.heap.size V2 W → SrcAt W 1 (.slice (some ⟨b, m, none⟩) (rs.length - m) (lc - m)) (rs.length - m) (intsV (rs.drop m))) := fun W hW => src_post (hRA2.out W hW) (by omega) (fun _ => rfl) _
        refine wp_region_mixed (by kernel_rfl) (fun vs => { tmps := #[Value.slice (some { block := b, off := 0 }) rs.length lc, Value.int IntKind.i64 r, undef, undef, vs 12, Value.int IntKind.i64 ↑m, Value.int IntKind.i64 ↑m, Value.slice (some { block := b, off := 0 }) rs.length lc, Value.int IntKind.i64 ↑rs.length, Value.bool true, Value.bool true, Value.slice (some { block := b, off := 0 }) rs.length lc, Value.int IntKind.i64 ↑m, Value.pointer (some { block := b, off := m }), Value.int IntKind.i64 z, Value.int IntKind.i64 r, Value.bool false, Value.bool false, u18, u19, vs 0, vs 1, vs 2, vs 3, vs 4, vs 5, vs 6, vs 7, vs 8, vs 9, vs 10, vs 11], defers := [] }) (insVal (.slice (some ⟨b, 0, none⟩) rs.length lc) (.slice (some ⟨b, 0, none⟩) m lc) (.slice (some ⟨b, m, none⟩) (rs.length - m) (lc - m)) r rs m) insSrc (fun i i' j h h' => by have := insSrc_cases h; have := insSrc_cases h'; omega) (fun i j h => by have := insSrc_cases h; rw [this.2]; rfl) 7 [11] insPure (insPV (.slice (some ⟨b, 0, none⟩) rs.length lc) (.slice (some ⟨b, m, none⟩) (rs.length - m) (lc - m)) m) (insRR V2.heap.size V2 r rs m) (fun i => if i = 12 then Value.slice none 0 0 else undef) rfl (by kernel_rfl) (insVal_below _ _ _ r rs m) (fun i v lo hi w hp h => by rcases insPure_cases hp with rfl | rfl | rfl <;> exact h) (insRR_loc _ _ r rs m) (allAt_all ⟨?_, ?_, ?_, ?_, ?_, ?_, ?_, ?_, ?_, ?_, ?_, ?_, ?_, trivial⟩) (allAt_all ⟨?_, ?_, ?_, ?_, ?_, ?_, ?_, ?_, ?_, ?_, ?_, ?_, ?_, trivial⟩) ?_ ?_ ?_
        case refine_1 =>
          intro _ _ vs lo hi W hB hv
          go_wp2
          exact RegPost.own _ rfl (below_1 _ _) ⟨rfl, OwnInK.made (World.ownsRow_made W #[] 0 (Nat.le_refl _) (by unfold maxLen; omega) rfl)⟩
        case refine_2 =>
          intro _ _ vs lo hi W hB hv
          go_wp2
          exact RegPost.own _ rfl (Below.refl _ _) rfl
        case refine_3 =>
          intro _ _ vs lo hi W hB hv
          go_wp2
          exact RegPost.own _ rfl (Below.refl _ _) rfl
        case refine_4 =>
          intro _ _ vs lo hi W hB hv
          have e1 : vs 1 = .slice (some ⟨b, 0, none⟩) rs.length lc := (hv ⟨1, .data⟩ (by simp) rfl).1
          have e2 : vs 2 = .int .i64 m := (hv ⟨2, .data⟩ (by simp) rfl).1
          simp only [e1, e2]
          go_wp2
          exact RegPost.own (.slice (some ⟨b, 0, none⟩) m lc) (by rw [← e1, ← e2]; rfl) (Below.refl _ _) rfl
        case refine_5 =>
          intro _ _ vs lo hi W hB hv
          obtain ⟨⟨q0, q1⟩, _, _, _⟩ := hv ⟨0, .data⟩ (by simp) rfl
          have q0 : vs 0 = .slice (some ⟨lo 0, 0, none⟩) 0 0 := q0
          have q1 : OwnInK (lo 0) (hi 0) W 2 1 (vs 0) 0 [] := q1
          have e3 : vs 3 = .slice (some ⟨b, 0, none⟩) m lc := (hv ⟨3, .data⟩ (by simp) rfl).1
          refine wpList_append_src0 rfl (.tmp 20) (.tmp 23) 23 rfl 2 i9 (.int .i64 0) 1 8 Try.underlying23 hi9 hz9 hs9 hb9 rfl (by omega) (lo 0) q0 (vs 3) m (intsV (rs.take m)) rfl (by rw [e3]; exact hsp.out W hB) (intsV_one _) (by unfold maxLen; omega) (by omega) (fun m0 n0 => ?_) (fun v1 w1 hown hgrow => ?_)
          · refine wpList_nil ?_
            refine RegPost.take (.slice (some ⟨lo 0, 0, none⟩) 0 0) ⟨0, .data⟩ rfl (by simp) rfl rfl (Below.refl _ _) ?_
            show OwnInK (lo 0) (hi 0) W 2 1 _ m (intsV (rs.take m))
            rw [n0, m0, ← q0]
            exact q1
          · refine wpList_nil ?_
            exact RegPost.own v1 rfl ((Below.refl _ _).grown hgrow (Nat.le_refl _) (fun j hj => by cases hj)) (OwnInK.made hown)
        case refine_6 =>
          intro _ _ vs lo hi W hB hv
          go_wp2
          exact RegPost.own (.int .i64 r) rfl (Below.refl _ _) rfl
        case refine_7 =>
          intro _ _ vs lo hi W hB hv
          have e5 : vs 5 = .int .i64 r := (hv ⟨5, .data⟩ (by simp) rfl).1
          simp only [e5]
          go_wp2
          exact RegPost.own (.slice (some ⟨W.heap.size, 0, none⟩) 1 1) (by rw [← e5]; rfl) (below_1 _ _) (OwnInK.made (World.ownsRow_lit W #[.int .i64 r] 1 (Nat.le_refl _) (by unfold maxLen; omega) rfl))
        case refine_8 => exact fun h => absurd (by decide) h
        case refine_9 =>
          intro _ _ vs lo hi W hB hv
          go_wp2
          exact RegPost.own _ rfl (Below.refl _ _) rfl
        case refine_10 =>
          intro _ _ vs lo hi W hB hv
          go_wp2
          exact RegPost.own _ rfl (Below.refl _ _) rfl
        case refine_11 =>
          intro _ _ vs lo hi W hB hv
          have e8 : vs 8 = .slice (some ⟨b, 0, none⟩) rs.length lc := (hv ⟨8, .data⟩ (by simp) rfl).1
          have e9 : vs 9 = .int .i64 m := (hv ⟨9, .data⟩ (by simp) rfl).1
          simp only [e8, e9]
          go_wp2
          exact RegPost.own (.slice (some ⟨b, m, none⟩) (rs.length - m) (lc - m)) (by rw [← e8, ← e9]; rfl) (Below.refl _ _) rfl
        case refine_12 => exact fun h => absurd (by decide) h
        case refine_13 => exact fun _ h => absurd h (by simp)
        case refine_14 => exact fun h => absurd h (by decide)
        case refine_15 => exact fun h => absurd h (by decide)
        case refine_16 => exact fun h => absurd h (by decide)
        case refine_17 => exact fun h => absurd h (by decide)
        case refine_18 => exact fun h => absurd h (by decide)
        case refine_19 => exact fun h => absurd h (by decide)
        case refine_20 => exact fun h => absurd h (by decide)
        case refine_21 => exact fun h => absurd h (by decide)
        case refine_22 =>
          intro _ _ q vs W hR hv
          go_wp2
          exact PurePost.mk' (.slice (some ⟨b, 0, none⟩) rs.length lc) rfl rfl
        case refine_23 =>
          intro _ _ q vs W hR hv
          go_wp2
          exact PurePost.mk' (.int .i64 m) rfl rfl
        case refine_24 =>
          intro _ _ q vs W hR hv
          have e8 : vs 8 = .slice (some ⟨b, 0, none⟩) rs.length lc := hv ⟨8, .data⟩ (by simp) rfl rfl
          have e9 : vs 9 = .int .i64 m := hv ⟨9, .data⟩ (by simp) rfl rfl
          simp only [e8, e9]
          go_wp2
          exact PurePost.mk' (.slice (some ⟨b, m, none⟩) (rs.length - m) (lc - m)) (by rw [← e8, ← e9]; rfl) rfl
        case refine_25 => exact fun h => absurd h (by decide)
        case refine_26 => exact fun h => absurd h (by decide)
        case refine_27 =>
          intro o ho vs lo hi W hB hv
          obtain rfl := Option.some.inj ho
          obtain ⟨h4, g4, _, _⟩ := hv ⟨4, .data⟩ (by simp) rfl
          obtain ⟨h6, g6, _, _⟩ := hv ⟨6, .data⟩ (by simp) rfl
          have h4 : W.ownsRow (lo 4) 2 1 (vs 4) m (intsV (rs.take m)) := h4.1
          have h6 : W.ownsRow (lo 6) 2 1 (vs 6) 1 (intsV [r]) := h6.1
          refine wpList_append_src rfl (.tmp 24) (.tmp 26) 23 rfl V2.heap.size 2 i9 (.int .i64 0) 1 8 Try.underlying23 hi9 hz9 hs9 hb9 rfl (by omega) (vs 4) m (intsV (rs.take m)) rfl (own_mono h4 g4) (vs 6) 1 (intsV [r]) rfl (src_own h6 (by omega)) (intsV_one _) (by unfold maxLen; omega) (by omega) hB.size ?_
          intro v' w' hown hgrow hat
          refine wpList_nil ?_
          refine ⟨v', rfl, hB.grown hgrow hB.size (fun j hj => (World.ownsRow.lt (own_mono h4 g4) j hj).1), ?_⟩
          rw [upd_same, intsV_append]
          exact hown
        case refine_28 =>
          intro q c o hq ho vs W hR hv
          match q, hq with
          | 0, hq =>
            obtain rfl : c = 11 := by simpa using hq.symm
            obtain rfl := Option.some.inj ho
            have e10 : vs 10 = .slice (some ⟨b, m, none⟩) (rs.length - m) (lc - m) := hv ⟨10, .data⟩ (by simp) rfl rfl
            obtain ⟨hB, hown7⟩ := hR
            refine wpList_append_src rfl (.tmp 27) (.tmp 30) 23 rfl V2.heap.size 2 i9 (.int .i64 0) 1 8 Try.underlying23 hi9 hz9 hs9 hb9 rfl (by omega) (vs 7) (m + 1) _ rfl hown7 (vs 10) (rs.length - m) (intsV (rs.drop m)) rfl (by rw [e10]; exact hsq.out W hB) (intsV_one _) (by unfold maxLen; omega) (by omega) hB.size ?_
            intro v' w' hown hgrow hat
            refine wpList_nil ?_
            refine ChainPost.mk' v' rfl ⟨hB.grown hgrow hB.size (fun j hj => (World.ownsRow.lt hown7 j hj).1), ?_⟩
            rw [upd_same, intsV_append]
            exact hown
          | q + 1, hq => simp at hq
        case refine_29 =>
          intro o ho vs W hR hv
          obtain rfl := Option.some.inj ho
          obtain ⟨hB, hown⟩ := hR
          have hfin : Hid (OutAt V2.heap.size W (vs 11) (addI rs r)) := by
            show W.ownsRow _ _ _ _ _ _
            rw [hins.out]
            have e : (rs.take m ++ [r] ++ rs.drop m).length = m + 1 + (rs.length - m) := by simp; omega
            rw [show (rs.take m ++ r :: rs.drop m) = rs.take m ++ [r] ++ rs.drop m by simp, e]
            exact hown
          have hfb : Hid (Below V2.heap.size V2 W) := hB
          clear hown hB
          obtain ⟨g, c, e11⟩ := own_some hfin.out (by rw [addI_length]; omega)
          rw [addI_length] at e11
          rw [e11] at hfin
          simp only [e11]
          go_wp2
          go_ret
          exact ⟨⟨g, c, rfl, hfin.out⟩, hfb.out⟩
    · have hge : ¬ ((m : Int) < (rs.length : Int)) := by omega
      have hins : Hid (addI rs r = rs.take m ++ r :: rs.drop m) := by
        have := hp.out
        rw [List.drop_eq_nil_of_le (by omega)] at this
        show _ = _
        unfold addI
        rw [← this]
        rfl
      clear hp
      by_cases hml : lc = m
      · subst lc
        go_upto_region 4 with fail
        have hsp : Hid (∀ W, Below V2.heap.size V2 W → SrcAt W 1 (.slice (some ⟨b, 0, none⟩) m m) m (intsV (rs.take m))) := fun W hW => src_pre (hRA2.out W hW) (by omega) _
        have hsq : Hid (∀ W, Below V2.heap.size V2 W → SrcAt W 1 (.slice (some ⟨b, 0, none⟩) 0 0) (rs.length - m) (intsV (rs.drop m))) := fun W hW => (by have := src_post (hRA2.out W hW) (m := m) (o := 0) (by omega) (fun q => absurd q (by omega)) 0; rwa [show rs.length - m = 0 by omega] at this ⊢)
        refine wp_region_mixed (by kernel_rfl) (fun vs => { tmps := #[Value.slice (some { block := b, off := 0 }) rs.length m, Value.int IntKind.i64 r, undef, undef, vs 12, Value.int IntKind.i64 ↑m, Value.int IntKind.i64 ↑m, Value.slice (some { block := b, off := 0 }) rs.length m, Value.int IntKind.i64 ↑rs.length, Value.bool false, Value.bool false, undef, undef, undef, undef, undef, undef, Value.bool false, u18, u19, vs 0, vs 1, vs 2, vs 3, vs 4, vs 5, vs 6, vs 7, vs 8, vs 9, vs 10, vs 11], defers := [] }) (insVal (.slice (some ⟨b, 0, none⟩) rs.length m) (.slice (some ⟨b, 0, none⟩) m m) (.slice (some ⟨b, 0, none⟩) 0 0) r rs m) insSrc (fun i i' j h h' => by have := insSrc_cases h; have := insSrc_cases h'; omega) (fun i j h => by have := insSrc_cases h; rw [this.2]; rfl) 7 [11] insPure (insPV (.slice (some ⟨b, 0, none⟩) rs.length m) (.slice (some ⟨b, 0, none⟩) 0 0) m) (insRR V2.heap.size V2 r rs m) (fun i => if i = 12 then Value.slice none 0 0 else undef) rfl (by kernel_rfl) (insVal_below _ _ _ r rs m) (fun i v lo hi w hp h => by rcases insPure_cases hp with rfl | rfl | rfl <;> exact h) (insRR_loc _ _ r rs m) (allAt_all ⟨?_, ?_, ?_, ?_, ?_, ?_, ?_, ?_, ?_, ?_, ?_, ?_, ?_, trivial⟩) (allAt_all ⟨?_, ?_, ?_, ?_, ?_, ?_, ?_, ?_, ?_, ?_, ?_, ?_, ?_, trivial⟩) ?_ ?_ ?_
        case refine_1 =>
          intro _ _ vs lo hi W hB hv
          go_wp2
          exact RegPost.own _ rfl (below_1 _ _) ⟨rfl, OwnInK.made (World.ownsRow_made W #[] 0 (Nat.le_refl _) (by unfold maxLen; omega) rfl)⟩
        case refine_2 =>
          intro _ _ vs lo hi W hB hv
          go_wp2
          exact RegPost.own _ rfl (Below.refl _ _) rfl
        case refine_3 =>
          intro _ _ vs lo hi W hB hv
          go_wp2
          exact RegPost.own _ rfl (Below.refl _ _) rfl
        case refine_4 =>
          intro _ _ vs lo hi W hB hv
          have e1 : vs 1 = .slice (some ⟨b, 0, none⟩) rs.length m := (hv ⟨1, .data⟩ (by simp) rfl).1
          have e2 : vs 2 = .int .i64 m := (hv ⟨2, .data⟩ (by simp) rfl).1
          simp only [e1, e2]
          go_wp2
          exact RegPost.own (.slice (some ⟨b, 0, none⟩) m m) (by rw [← e1, ← e2]; rfl) (Below.refl _ _) rfl
        case refine_5 =>
          intro _ _ vs lo hi W hB hv
          obtain ⟨⟨q0, q1⟩, _, _, _⟩ := hv ⟨0, .data⟩ (by simp) rfl
          have q0 : vs 0 = .slice (some ⟨lo 0, 0, none⟩) 0 0 := q0
          have q1 : OwnInK (lo 0) (hi 0) W 2 1 (vs 0) 0 [] := q1
          have e3 : vs 3 = .slice (some ⟨b, 0, none⟩) m m := (hv ⟨3, .data⟩ (by simp) rfl).1
          refine wpList_append_src0 rfl (.tmp 20) (.tmp 23) 23 rfl 2 i9 (.int .i64 0) 1 8 Try.underlying23 hi9 hz9 hs9 hb9 rfl (by omega) (lo 0) q0 (vs 3) m (intsV (rs.take m)) rfl (by rw [e3]; exact hsp.out W hB) (intsV_one _) (by unfold maxLen; omega) (by omega) (fun m0 n0 => ?_) (fun v1 w1 hown hgrow => ?_)
          · refine wpList_nil ?_
            refine RegPost.take (.slice (some ⟨lo 0, 0, none⟩) 0 0) ⟨0, .data⟩ rfl (by simp) rfl rfl (Below.refl _ _) ?_
            show OwnInK (lo 0) (hi 0) W 2 1 _ m (intsV (rs.take m))
            rw [n0, m0, ← q0]
            exact q1
          · refine wpList_nil ?_
            exact RegPost.own v1 rfl ((Below.refl _ _).grown hgrow (Nat.le_refl _) (fun j hj => by cases hj)) (OwnInK.made hown)
        case refine_6 =>
          intro _ _ vs lo hi W hB hv
          go_wp2
          exact RegPost.own (.int .i64 r) rfl (Below.refl _ _) rfl
        case refine_7 =>
          intro _ _ vs lo hi W hB hv
          have e5 : vs 5 = .int .i64 r := (hv ⟨5, .data⟩ (by simp) rfl).1
          simp only [e5]
          go_wp2
          exact RegPost.own (.slice (some ⟨W.heap.size, 0, none⟩) 1 1) (by rw [← e5]; rfl) (below_1 _ _) (OwnInK.made (World.ownsRow_lit W #[.int .i64 r] 1 (Nat.le_refl _) (by unfold maxLen; omega) rfl))
        case refine_8 => exact fun h => absurd (by decide) h
        case refine_9 =>
          intro _ _ vs lo hi W hB hv
          go_wp2
          exact RegPost.own _ rfl (Below.refl _ _) rfl
        case refine_10 =>
          intro _ _ vs lo hi W hB hv
          go_wp2
          exact RegPost.own _ rfl (Below.refl _ _) rfl
        case refine_11 =>
          intro _ _ vs lo hi W hB hv
          have e8 : vs 8 = .slice (some ⟨b, 0, none⟩) rs.length m := (hv ⟨8, .data⟩ (by simp) rfl).1
          have e9 : vs 9 = .int .i64 m := (hv ⟨9, .data⟩ (by simp) rfl).1
          simp only [e8, e9]
          go_wp2
          exact RegPost.own (.slice (some ⟨b, 0, none⟩) 0 0) (by rw [← e8, ← e9]; rfl) (Below.refl _ _) rfl
        case refine_12 => exact fun h => absurd (by decide) h
        case refine_13 => exact fun _ h => absurd h (by simp)
        case refine_14 => exact fun h => absurd h (by decide)
        case refine_15 => exact fun h => absurd h (by decide)
        case refine_16 => exact fun h => absurd h (by decide)
        case refine_17 => exact fun h => absurd h (by decide)
        case refine_18 => exact fun h => absurd h (by decide)
        case refine_19 => exact fun h => absurd h (by decide)
        case refine_20 => exact fun h => absurd h (by decide)
        case refine_21 => exact fun h => absurd h (by decide)
        case refine_22 =>
          intro _ _ q vs W hR hv
          go_wp2
          exact PurePost.mk' (.slice (some ⟨b, 0, none⟩) rs.length m) rfl rfl
        case refine_23 =>
          intro _ _ q vs W hR hv
          go_wp2
          exact PurePost.mk' (.int .i64 m) rfl rfl
        case refine_24 =>
          intro _ _ q vs W hR hv
          have e8 : vs 8 = .slice (some ⟨b, 0, none⟩) rs.length m := hv ⟨8, .data⟩ (by simp) rfl rfl
          have e9 : vs 9 = .int .i64 m := hv ⟨9, .data⟩ (by simp) rfl rfl
          simp only [e8, e9]
          go_wp2
          exact PurePost.mk' (.slice (some ⟨b, 0, none⟩) 0 0) (by rw [← e8, ← e9]; rfl) rfl
        case refine_25 => exact fun h => absurd h (by decide)
        case refine_26 => exact fun h => absurd h (by decide)
        case refine_27 =>
          intro o ho vs lo hi W hB hv
          obtain rfl := Option.some.inj ho
          obtain ⟨h4, g4, _, _⟩ := hv ⟨4, .data⟩ (by simp) rfl
          obtain ⟨h6, g6, _, _⟩ := hv ⟨6, .data⟩ (by simp) rfl
          have h4 : W.ownsRow (lo 4) 2 1 (vs 4) m (intsV (rs.take m)) := h4.1
          have h6 : W.ownsRow (lo 6) 2 1 (vs 6) 1 (intsV [r]) := h6.1
          refine wpList_append_src rfl (.tmp 24) (.tmp 26) 23 rfl V2.heap.size 2 i9 (.int .i64 0) 1 8 Try.underlying23 hi9 hz9 hs9 hb9 rfl (by omega) (vs 4) m (intsV (rs.take m)) rfl (own_mono h4 g4) (vs 6) 1 (intsV [r]) rfl (src_own h6 (by omega)) (intsV_one _) (by unfold maxLen; omega) (by omega) hB.size ?_
          intro v' w' hown hgrow hat
          refine wpList_nil ?_
          refine ⟨v', rfl, hB.grown hgrow hB.size (fun j hj => (World.ownsRow.lt (own_mono h4 g4) j hj).1), ?_⟩
          rw [upd_same, intsV_append]
          exact hown
        case refine_28 =>
          intro q c o hq ho vs W hR hv
          match q, hq with
          | 0, hq =>
            obtain rfl : c = 11 := by simpa using hq.symm
            obtain rfl := Option.some.inj ho
            have e10 : vs 10 = .slice (some ⟨b, 0, none⟩) 0 0 := hv ⟨10, .data⟩ (by simp) rfl rfl
            obtain ⟨hB, hown7⟩ := hR
            refine wpList_append_src rfl (.tmp 27) (.tmp 30) 23 rfl V2.heap.size 2 i9 (.int .i64 0) 1 8 Try.underlying23 hi9 hz9 hs9 hb9 rfl (by omega) (vs 7) (m + 1) _ rfl hown7 (vs 10) (rs.length - m) (intsV (rs.drop m)) rfl (by rw [e10]; exact hsq.out W hB) (intsV_one _) (by unfold maxLen; omega) (by omega) hB.size ?_
            intro v' w' hown hgrow hat
            refine wpList_nil ?_
            refine ChainPost.mk' v' rfl ⟨hB.grown hgrow hB.size (fun j hj => (World.ownsRow.lt hown7 j hj).1), ?_⟩
            rw [upd_same, intsV_append]
            exact hown
          | q + 1, hq => simp at hq
        case refine_29 =>
          intro o ho vs W hR hv
          obtain rfl := Option.some.inj ho
          obtain ⟨hB, hown⟩ := hR
          have hfin : Hid (OutAt V2.heap.size W (vs 11) (addI rs r)) := by
            show W.ownsRow _ _ _ _ _ _
            rw [hins.out]
            have e : (rs.take m ++ [r] ++ rs.drop m).length = m + 1 + (rs.length - m) := by simp; omega
            rw [show (rs.take m ++ r :: rs.drop m) = rs.take m ++ [r] ++ rs.drop m by simp, e]
            exact hown
          have hfb : Hid (Below V2.heap.size V2 W) := hB
          clear hown hB
          obtain ⟨g, c, e11⟩ := own_some hfin.out (by rw [addI_length]; omega)
          rw [addI_length] at e11
          rw [e11] at hfin
          simp only [e11]
          go_wp2
          go_ret
          exact ⟨⟨g, c, rfl, hfin.out⟩, hfb.out⟩
      · have hml2 : m < lc := by omega
        have hml3 : (m : Int) < lc := by omega
        go_upto_region 4 with fail
        have hsp : Hid (∀ W, Below V2.heap.size V2 W → SrcAt W 1 (.slice (some ⟨b, 0, none⟩) m lc) m (intsV (rs.take m))) := fun W hW => src_pre (hRA2.out W hW) (by omega) _
        have hsq : Hid (∀ W, Below V2.heap.size V2 W → SrcAt W 1 (.slice (some ⟨b, m, none⟩) (rs.length - m) (lc - m)) (rs.length - m) (intsV (rs.drop m))) := fun W hW => src_post (hRA2.out W hW) (by omega) (fun _ => rfl) _
        refine wp_region_mixed (by kernel_rfl) (fun vs => { tmps := #[Value.slice (some { block := b, off := 0 }) rs.length lc, Value.int IntKind.i64 r, undef, undef, vs 12, Value.int IntKind.i64 ↑m, Value.int IntKind.i64 ↑m, Value.slice (some { block := b, off := 0 }) rs.length lc, Value.int IntKind.i64 ↑rs.length, Value.bool false, Value.bool false, undef, undef, undef, undef, undef, undef, Value.bool false, u18, u19, vs 0, vs 1, vs 2, vs 3, vs 4, vs 5, vs 6, vs 7, vs 8, vs 9, vs 10, vs 11], defers := [] }) (insVal (.slice (some ⟨b, 0, none⟩) rs.length lc) (.slice (some ⟨b, 0, none⟩) m lc) (.slice (some ⟨b, m, none⟩) (rs.length - m) (lc - m)) r rs m) insSrc (fun i i' j h h' => by have := insSrc_cases h; have := insSrc_cases h'; omega) (fun i j h => by have := insSrc_cases h; rw [this.2]; rfl) 7 [11] insPure (insPV (.slice (some ⟨b, 0, none⟩) rs.length lc) (.slice (some ⟨b, m, none⟩) (rs.length - m) (lc - m)) m) (insRR V2.heap.size V2 r rs m) (fun i => if i = 12 then Value.slice none 0 0 else undef) rfl (by kernel_rfl) (insVal_below _ _ _ r rs m) (fun i v lo hi w hp h => by rcases insPure_cases hp with rfl | rfl | rfl <;> exact h) (insRR_loc _ _ r rs m) (allAt_all ⟨?_, ?_, ?_, ?_, ?_, ?_, ?_, ?_, ?_, ?_, ?_, ?_, ?_, trivial⟩) (allAt_all ⟨?_, ?_, ?_, ?_, ?_, ?_, ?_, ?_, ?_, ?_, ?_, ?_, ?_, trivial⟩) ?_ ?_ ?_
        case refine_1 =>
          intro _ _ vs lo hi W hB hv
          go_wp2
          exact RegPost.own _ rfl (below_1 _ _) ⟨rfl, OwnInK.made (World.ownsRow_made W #[] 0 (Nat.le_refl _) (by unfold maxLen; omega) rfl)⟩
        case refine_2 =>
          intro _ _ vs lo hi W hB hv
          go_wp2
          exact RegPost.own _ rfl (Below.refl _ _) rfl
        case refine_3 =>
          intro _ _ vs lo hi W hB hv
          go_wp2
          exact RegPost.own _ rfl (Below.refl _ _) rfl
        case refine_4 =>
          intro _ _ vs lo hi W hB hv
          have e1 : vs 1 = .slice (some ⟨b, 0, none⟩) rs.length lc := (hv ⟨1, .data⟩ (by simp) rfl).1
          have e2 : vs 2 = .int .i64 m := (hv ⟨2, .data⟩ (by simp) rfl).1
          simp only [e1, e2]
          go_wp2
          exact RegPost.own (.slice (some ⟨b, 0, none⟩) m lc) (by rw [← e1, ← e2]; rfl) (Below.refl _ _) rfl
        case refine_5 =>
          intro _ _ vs lo hi W hB hv
          obtain ⟨⟨q0, q1⟩, _, _, _⟩ := hv ⟨0, .data⟩ (by simp) rfl
          have q0 : vs 0 = .slice (some ⟨lo 0, 0, none⟩) 0 0 := q0
          have q1 : OwnInK (lo 0) (hi 0) W 2 1 (vs 0) 0 [] := q1
          have e3 : vs 3 = .slice (some ⟨b, 0, none⟩) m lc := (hv ⟨3, .data⟩ (by simp) rfl).1
          refine wpList_append_src0 rfl (.tmp 20) (.tmp 23) 23 rfl 2 i9 (.int .i64 0) 1 8 Try.underlying23 hi9 hz9 hs9 hb9 rfl (by omega) (lo 0) q0 (vs 3) m (intsV (rs.take m)) rfl (by rw [e3]; exact hsp.out W hB) (intsV_one _) (by unfold maxLen; omega) (by omega) (fun m0 n0 => ?_) (fun v1 w1 hown hgrow => ?_)
          · refine wpList_nil ?_
            refine RegPost.take (.slice (some ⟨lo 0, 0, none⟩) 0 0) ⟨0, .data⟩ rfl (by simp) rfl rfl (Below.refl _ _) ?_
            show OwnInK (lo 0) (hi 0) W 2 1 _ m (intsV (rs.take m))
            rw [n0, m0, ← q0]
            exact q1
          · refine wpList_nil ?_
            exact RegPost.own v1 rfl ((Below.refl _ _).grown hgrow (Nat.le_refl _) (fun j hj => by cases hj)) (OwnInK.made hown)
        case refine_6 =>
          intro _ _ vs lo hi W hB hv
          go_wp2
          exact RegPost.own (.int .i64 r) rfl (Below.refl _ _) rfl
        case refine_7 =>
          intro _ _ vs lo hi W hB hv
          have e5 : vs 5 = .int .i64 r := (hv ⟨5, .data⟩ (by simp) rfl).1
          simp only [e5]
          go_wp2
          exact RegPost.own (.slice (some ⟨W.heap.size, 0, none⟩) 1 1) (by rw [← e5]; rfl) (below_1 _ _) (OwnInK.made (World.ownsRow_lit W #[.int .i64 r] 1 (Nat.le_refl _) (by unfold maxLen; omega) rfl))
        case refine_8 => exact fun h => absurd (by decide) h
        case refine_9 =>
          intro _ _ vs lo hi W hB hv
          go_wp2
          exact RegPost.own _ rfl (Below.refl _ _) rfl
        case refine_10 =>
          intro _ _ vs lo hi W hB hv
          go_wp2
          exact RegPost.own _ rfl (Below.refl _ _) rfl
        case refine_11 =>
          intro _ _ vs lo hi W hB hv
          have e8 : vs 8 = .slice (some ⟨b, 0, none⟩) rs.length lc := (hv ⟨8, .data⟩ (by simp) rfl).1
          have e9 : vs 9 = .int .i64 m := (hv ⟨9, .data⟩ (by simp) rfl).1
          simp only [e8, e9]
          go_wp2
          exact RegPost.own (.slice (some ⟨b, m, none⟩) (rs.length - m) (lc - m)) (by rw [← e8, ← e9]; rfl) (Below.refl _ _) rfl
        case refine_12 => exact fun h => absurd (by decide) h
        case refine_13 => exact fun _ h => absurd h (by simp)
        case refine_14 => exact fun h => absurd h (by decide)
        case refine_15 => exact fun h => absurd h (by decide)
        case refine_16 => exact fun h => absurd h (by decide)
        case refine_17 => exact fun h => absurd h (by decide)
        case refine_18 => exact fun h => absurd h (by decide)
        case refine_19 => exact fun h => absurd h (by decide)
        case refine_20 => exact fun h => absurd h (by decide)
        case refine_21 => exact fun h => absurd h (by decide)
        case refine_22 =>
          intro _ _ q vs W hR hv
          go_wp2
          exact PurePost.mk' (.slice (some ⟨b, 0, none⟩) rs.length lc) rfl rfl
        case refine_23 =>
          intro _ _ q vs W hR hv
          go_wp2
          exact PurePost.mk' (.int .i64 m) rfl rfl
        case refine_24 =>
          intro _ _ q vs W hR hv
          have e8 : vs 8 = .slice (some ⟨b, 0, none⟩) rs.length lc := hv ⟨8, .data⟩ (by simp) rfl rfl
          have e9 : vs 9 = .int .i64 m := hv ⟨9, .data⟩ (by simp) rfl rfl
          simp only [e8, e9]
          go_wp2
          exact PurePost.mk' (.slice (some ⟨b, m, none⟩) (rs.length - m) (lc - m)) (by rw [← e8, ← e9]; rfl) rfl
        case refine_25 => exact fun h => absurd h (by decide)
        case refine_26 => exact fun h => absurd h (by decide)
        case refine_27 =>
          intro o ho vs lo hi W hB hv
          obtain rfl := Option.some.inj ho
          obtain ⟨h4, g4, _, _⟩ := hv ⟨4, .data⟩ (by simp) rfl
          obtain ⟨h6, g6, _, _⟩ := hv ⟨6, .data⟩ (by simp) rfl
          have h4 : W.ownsRow (lo 4) 2 1 (vs 4) m (intsV (rs.take m)) := h4.1
          have h6 : W.ownsRow (lo 6) 2 1 (vs 6) 1 (intsV [r]) := h6.1
          refine wpList_append_src rfl (.tmp 24) (.tmp 26) 23 rfl V2.heap.size 2 i9 (.int .i64 0) 1 8 Try.underlying23 hi9 hz9 hs9 hb9 rfl (by omega) (vs 4) m (intsV (rs.take m)) rfl (own_mono h4 g4) (vs 6) 1 (intsV [r]) rfl (src_own h6 (by omega)) (intsV_one _) (by unfold maxLen; omega) (by omega) hB.size ?_
          intro v' w' hown hgrow hat
          refine wpList_nil ?_
          refine ⟨v', rfl, hB.grown hgrow hB.size (fun j hj => (World.ownsRow.lt (own_mono h4 g4) j hj).1), ?_⟩
          rw [upd_same, intsV_append]
          exact hown
        case refine_28 =>
          intro q c o hq ho vs W hR hv
          match q, hq with
          | 0, hq =>
            obtain rfl : c = 11 := by simpa using hq.symm
            obtain rfl := Option.some.inj ho
            have e10 : vs 10 = .slice (some ⟨b, m, none⟩) (rs.length - m) (lc - m) := hv ⟨10, .data⟩ (by simp) rfl rfl
            obtain ⟨hB, hown7⟩ := hR
            refine wpList_append_src rfl (.tmp 27) (.tmp 30) 23 rfl V2.heap.size 2 i9 (.int .i64 0) 1 8 Try.underlying23 hi9 hz9 hs9 hb9 rfl (by omega) (vs 7) (m + 1) _ rfl hown7 (vs 10) (rs.length - m) (intsV (rs.drop m)) rfl (by rw [e10]; exact hsq.out W hB) (intsV_one _) (by unfold maxLen; omega) (by omega) hB.size ?_
            intro v' w' hown hgrow hat
            refine wpList_nil ?_
            refine ChainPost.mk' v' rfl ⟨hB.grown hgrow hB.size (fun j hj => (World.ownsRow.lt hown7 j hj).1), ?_⟩
            rw [upd_same, intsV_append]
            exact hown
          | q + 1, hq => simp at hq
        case refine_29 =>
          intro o ho vs W hR hv
          obtain rfl := Option.some.inj ho
          obtain ⟨hB, hown⟩ := hR
          have hfin : Hid (OutAt V2.heap.size W (vs 11) (addI rs r)) := by
            show W.ownsRow _ _ _ _ _ _
            rw [hins.out]
            have e : (rs.take m ++ [r] ++ rs.drop m).length = m + 1 + (rs.length - m) := by simp; omega
            rw [show (rs.take m ++ r :: rs.drop m) = rs.take m ++ [r] ++ rs.drop m by simp, e]
            exact hown
          have hfb : Hid (Below V2.heap.size V2 W) := hB
          clear hown hB
          obtain ⟨g, c, e11⟩ := own_some hfin.out (by rw [addI_length]; omega)
          rw [addI_length] at e11
          rw [e11] at hfin
          simp only [e11]
          go_wp2
          go_ret
          exact ⟨⟨g, c, rfl, hfin.out⟩, hfb.out⟩
end Go.Proofs.Ytedpocgmfpaeeaa
