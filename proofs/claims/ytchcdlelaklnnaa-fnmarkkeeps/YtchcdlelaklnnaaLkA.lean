/- What is reached, and what is there: both sides alike, and what a cycle at rest leaves. -/
import Derived.Test.YtchcdlelaklnnaaMpW
import Derived.Test.YtchcdlelaklnnaaRsG
import Derived.Test.YtchcdlelaklnnaaDrD
import Derived.Test.YtchcdlelaklnnaaMkK
import Derived.Test.YtchcdlelaklnnaaMrF
namespace Go.Proofs.Ytchcdlelaklnnaa
set_option linter.unusedVariables false
open Go.ChangeShapes Go.WideShapes Go.ChangeAt Go.RowKit

theorem has_gob {os : List ObP} {z : Int} : hasG (os.map gobOf) z ↔ hasP os z := by
  constructor
  · rintro ⟨h0, g, hg, e⟩
    obtain ⟨o, ho, rfl⟩ := List.mem_map.1 hg
    exact ⟨h0, o, ho, e⟩
  · rintro ⟨h0, o, ho, e⟩
    exact ⟨h0, gobOf o, List.mem_map_of_mem ho, e⟩
theorem out_gob (o : ObP) : outG (gobOf o) = o.flds := if_neg (fun q => by have := q.1; simp [gobOf] at this)
theorem live_lv {os : List ObP} {rs : List Int} {z : Int} : z ∈ liveL (os.map gobOf) rs ↔ LvP os rs z := by
  rw [mem_liveL]
  constructor
  · intro h
    induction h with
    | root h1 h2 => exact .root h1 (has_gob.1 h2)
    | @step id g hp hg hid hh ih =>
      obtain ⟨o, ho, rfl⟩ := List.mem_map.1 hg
      exact .step ih ho (by rw [← out_gob]; exact hid) (has_gob.1 hh)
  · intro h
    induction h with
    | root h1 h2 => exact .root h1 (has_gob.2 h2)
    | @step id o hp ho hid hh ih => exact .step (o := gobOf o) ih (List.mem_map_of_mem ho) (by rw [out_gob]; exact hid) (has_gob.2 hh)
/-- What can be read of the program's answer. -/
def TellI (w : World) (o r q : Value) (x : HpM) : Prop :=
  ∃ a0 c0 a1 c1 a3 c3, o = .slice a0 x.os.length c0 ∧ r = .slice a1 x.rs.length c1 ∧ q = .slice a3 x.qs.length c3 ∧ (∀ k (hk : k < x.os.length), ∃ b fb fc, a0 = some ⟨b, 0, none⟩ ∧ b < w.heap.size ∧ fb < w.heap.size ∧ PobAt w b k x.os[k] fb fc) ∧ ∀ W, Below w.heap.size w W → SrcAt W 1 (.slice a1 x.rs.length c1) x.rs.length (intsV x.rs)
theorem HpO.tellI {lo hi : Nat} {w : World} {o r q : Value} {x : HpM} (h : HpO lo hi w o r q x) (hr : x.rs.length = 8) : TellI w o r q x := by
  rcases h with ⟨e1, e2, e3, rfl, rfl, rfl⟩ | ⟨b, c, gs, m1, m2, rfl, h, hf⟩
  · exact ⟨none, 0, none, 0, none, 0, by rw [e1]; rfl, by rw [e2]; rfl, by rw [e3]; rfl, fun k hk => by rw [e1] at hk; simp at hk, fun W _ => by rw [e2]; exact .inl ⟨rfl, rfl, rfl⟩⟩
  · obtain ⟨a1, c1, e1⟩ := h.r.form
    obtain ⟨a3, c3, e3⟩ := h.q.form
    have n := h.n
    have bd := h.o.bd
    refine ⟨some ⟨b, 0, none⟩, c, a1, c1, a3, c3, rfl, e1, e3, fun k hk => ?_, fun W hW => ?_⟩
    · obtain ⟨g, hg, hra, hin⟩ := h.o.cells k hk
      obtain ⟨f, n', hf1, rfl⟩ := hf k g hg
      have hform := hin.form
      obtain ⟨a', c', e⟩ := hform
      injection e with ea en ec
      subst en
      refine ⟨b, f, x.os[k].flds.length, rfl, by omega, hf1, hra, Nat.le_refl _, fun j hj => ?_⟩
      obtain ⟨b', hb', _, _, hcl, _⟩ := hin.at j hj
      injection hb' with hb'
      injection hb' with hb'
      subst hb'
      exact hcl
    · rcases h.r with ⟨e0, a, c', e⟩ | ⟨b', c', e, _, hlt, _, hcl⟩
      · rw [e0] at hr
        simp at hr
      · rw [← e1, e]
        refine .inr ⟨⟨b', 0, none⟩, c', rfl, by simp [intsV], fun j u hj => ?_⟩
        rw [Addr.add_lit, Nat.zero_add]
        have hl : j < x.rs.length := by have := (List.getElem?_eq_some_iff.1 hj).1; simpa [intsV] using this
        have h1 := hcl j hl
        rw [hW.cell (p := ⟨b', j, none⟩) (by show b' < _; omega), h1]
        simpa [intsV, hl] using hj
set_option maxRecDepth 100000 in
set_option maxHeartbeats 1000000 in
theorem implNo_calls (w : World) (mode : Int) (va : Option Addr) (n vc : Nat) (h : runOk mode n = false) :
    Calls Try.prog 7 #[.int .i64 mode, .slice va n vc] w fun e w' => e = .returned (.agg #[.slice none 0 0, .slice none 0 0, .bool false, .slice none 0 0]) ∧ Below w.heap.size w w' := by
  have hok : Hid (∀ W, Calls Try.prog 12 #[.int .i64 mode, .slice va n vc] W fun e w' => e = .returned (.bool false) ∧ w' = W) := fun W => by
    have := markOk_calls mode va n vc W
    rwa [h] at this
  obtain ⟨W0, hW0⟩ : ∃ W0, W0 = w.alloc (.cells #[.slice none 0 0, .slice none 0 0, .bool false, .slice none 0 0] 34) := ⟨_, rfl⟩
  have hB0 : Below w.heap.size w W0 := by rw [hW0]; exact below_1 _ _
  have hbx : W0.heap[w.heap.size]? = some (.cells #[.slice none 0 0, .slice none 0 0, .bool false, .slice none 0 0] 34 (0, 0)) := by rw [hW0]; exact heap_alloc_new w _
  have hfin : Hid (Below w.heap.size w (W0.setRow w.heap.size #[.slice none 0 0, .slice none 0 0, .bool false, .slice none 0 0])) := AtSet hB0 (Nat.le_refl _)
  go_enter Try.func7, Try.ntmps7
  go_upto_region 1 with fail
  rw [← hW0]
  clear hW0
  go_wp2_with (first
    | (go_at_call 12; refine (show Calls _ _ _ _ _ from hok.out _).mono ?_; rintro e W1 ⟨rfl, hw⟩; subst hw)
    | (refine wpList_store_row rfl 34 _ _ rfl w.heap.size #[.slice none 0 0, .slice none 0 0, .bool false, .slice none 0 0] rfl rfl 34 _ hbx (by kernel_rfl) rfl (all_oneCell_toArray (cs := [.slice none 0 0, .slice none 0 0, .bool false, .slice none 0 0]) (by simp [Value.oneCell'])) ?_))
  (try simp only [Exit.inBlock, Exit.then])
  refine bodyPost_ret (v := .agg #[.slice none 0 0, .slice none 0 0, .bool false, .slice none 0 0]) (results_cell_row rfl _ _ w.heap.size 34 #[.slice none 0 0, .slice none 0 0, .bool false, .slice none 0 0] (0, 0) _ rfl (setRow_heap _ _ _ _ _ _ hbx) Try.underlying34 rfl (by kernel_rfl)) rfl ?_
  exact ⟨rfl, hfin.out⟩
/-- The program's heap, as it can be read. -/
theorem implTell_calls (w : World) (mode : Int) (ops : List OpM) (v : Value) (own : Bool) (lo hi : Nat) (h : ListAt MopR 4 own lo hi w v ops) (hh : hi ≤ w.heap.size) :
    Calls Try.prog 7 #[.int .i64 mode, v] w fun e w' => ∃ o r q, e = .returned (.agg #[o, r, .bool (atM mode ops).cyc, q]) ∧ TellI w' o r q (atM mode ops) ∧ Below w.heap.size w w' := by
  cases hq : runOk mode ops.length with
  | true =>
    refine (implAt_calls w mode ops v own lo hi h hh).mono ?_
    rintro e w' ⟨o, r, q, he, hO, hb⟩
    refine ⟨o, r, q, he, hO.tellI ?_, hb⟩
    have hm := hq
    simp [runOk] at hm
    have g : GoodM (runM (newM mode) ops) := (GoodM.new hm.1).run _
    unfold atM
    rw [if_pos hq]
    exact g.inv.rl
  | false =>
    obtain ⟨va, vc, rfl⟩ := h.form
    refine (implNo_calls w mode va ops.length vc hq).mono ?_
    rintro e w' ⟨he, hb⟩
    have e0 : atM mode ops = ⟨[], [], false, []⟩ := by unfold atM; rw [hq]; rfl
    rw [e0]
    exact ⟨_, _, _, he, ⟨none, 0, none, 0, none, 0, rfl, rfl, rfl, fun k hk => by simp at hk, fun W _ => .inl ⟨rfl, rfl, rfl⟩⟩, hb⟩
theorem atM_rng (mode : Int) (ops : List OpM) : (atM mode ops).rng := by
  unfold atM
  split
  · rename_i h
    simp [runOk] at h
    have g : GoodM (runM (newM mode) ops) := (GoodM.new h.1).run _
    generalize runM (newM mode) ops = s at g
    have hl := g.len
    refine ⟨fun o ho => ?_, fun z hz => ?_⟩
    · obtain ⟨i, hi, rfl⟩ := List.mem_map.1 ho
      obtain ⟨x, hx, _⟩ := mem_therL.1 hi
      have hil := (List.getElem?_eq_some_iff.1 hx).1
      rw [obP_some hx]
      refine ⟨by unfold Rng; simp only; omega, fun z hz => ?_⟩
      have := g.inv.fr x (List.mem_of_getElem? hx) z hz
      unfold Rng
      omega
    · have := g.inv.rr z hz
      unfold Rng
      omega
  · exact ⟨fun o ho => by simp at ho, fun z hz => by simp at hz⟩
theorem atM_small (mode : Int) (ops : List OpM) : ¬ ((atM mode ops).rs.length > 8 ∨ (atM mode ops).os.length > 400) ∧ (atM mode ops).small := by
  unfold atM
  split
  · rename_i h
    simp [runOk] at h
    have g : GoodM (runM (newM mode) ops) := (GoodM.new h.1).run _
    have h1 := therL_len (runM (newM mode) ops).obs
    have h2 := g.len
    have h3 := obsP_length (runM (newM mode) ops).obs
    have h4 := g.inv.rl
    have h5 : (hpOf (runM (newM mode) ops)).os = obsP (runM (newM mode) ops).obs := rfl
    have h6 : (hpOf (runM (newM mode) ops)).rs = (runM (newM mode) ops).roots := rfl
    have h7 : (hpOf (runM (newM mode) ops)).qs = (runM (newM mode) ops).row := rfl
    have h8 := g.inv.rowlen
    unfold HpM.small
    rw [h5, h6, h7]
    exact ⟨by omega, by omega, by omega, by omega, fun o ho => by have := obsP_six g.fl o ho; show _ ≤ _; omega⟩
  · exact ⟨by simp, by simp [HpM.small]⟩
/-- Behind a cycle at rest there is what is reached. -/
theorem obsP_has {obs : List ObM} {z : Int} : z ∈ (obsP obs).map ObP.id ↔ ∃ o, getM obs z = some o := by
  constructor
  · intro h
    obtain ⟨x, hx, e⟩ := List.mem_map.1 h
    obtain ⟨i, hi, rfl⟩ := List.mem_map.1 hx
    obtain ⟨o, ho, ht⟩ := mem_therL.1 hi
    rw [obP_some ho] at e
    refine ⟨o, getM_some.2 ⟨by simp only at e; omega, ?_, ht⟩⟩
    have : z.toNat - 1 = i := by simp only at e; omega
    rw [this]
    exact ho
  · rintro ⟨o, h⟩
    obtain ⟨h1, h2, h3⟩ := getM_some.1 h
    refine List.mem_map.2 ⟨obP obs (z.toNat - 1), List.mem_map_of_mem (mem_therL.2 ⟨o, h2, h3⟩), ?_⟩
    rw [obP_some h2]
    show ((z.toNat - 1 : Nat) : Int) + 1 = z
    omega
theorem obsP_asc (obs : List ObM) : AscI ((obsP obs).map ObP.id) := by
  unfold AscI obsP
  rw [List.map_map, List.pairwise_map]
  have hp : (therL obs).Pairwise (· < ·) := List.Pairwise.filter _ List.pairwise_lt_range
  refine hp.imp_of_mem fun {i j} hi hj hlt => ?_
  obtain ⟨o, ho, _⟩ := mem_therL.1 hi
  obtain ⟨o', ho', _⟩ := mem_therL.1 hj
  simp only [Function.comp]
  rw [obP_some ho, obP_some ho']
  show (i : Int) + 1 < (j : Int) + 1
  omega
theorem obsP_flds {obs : List ObM} {z : Int} {o : ObM} (h : getM obs z = some o) : ∃ x ∈ obsP obs, x.id = z ∧ x.flds = o.flds := by
  obtain ⟨h1, h2, h3⟩ := getM_some.1 h
  refine ⟨obP obs (z.toNat - 1), List.mem_map_of_mem (mem_therL.2 ⟨o, h2, h3⟩), ?_⟩
  rw [obP_some h2]
  exact ⟨by show ((z.toNat - 1 : Nat) : Int) + 1 = z; omega, rfl⟩
theorem ReachM.lv {s : StM} {z : Int} (h : ReachM s z) : LvP (obsP s.obs) s.roots z := by
  have has : ∀ y o, getM s.obs y = some o → hasP (obsP s.obs) y := fun y o ho => by
    obtain ⟨x, hx, e, _⟩ := obsP_flds ho
    exact ⟨by have := (getM_le ho).1; omega, x, hx, e⟩
  induction h with
  | root h1 h2 => exact .root h1 (has _ _ h2)
  | step h1 h2 h3 h4 ih =>
    obtain ⟨x, hx, e, ef⟩ := obsP_flds h2
    exact .step (o := x) (by rw [e]; exact ih) hx (by rw [ef]; exact h3) (has _ _ h4)
theorem rest_len {mode : Int} {ops : List OpM} (hm : mode = 1 ∨ mode = 2) (hl : ops.length + 3 ≤ 500) {Z : List Int} (hZ : AscI Z ∧ ∀ z, z ∈ Z ↔ LvP (atM mode (ops ++ restOps (runM (newM mode) ops))).os (atM mode (ops ++ restOps (runM (newM mode) ops))).rs z) : Z.length = (atM mode (ops ++ restOps (runM (newM mode) ops))).os.length ∧ (atM mode (ops ++ restOps (runM (newM mode) ops))).cyc = false := by
  have g : GoodM (runM (newM mode) ops) := (GoodM.new hm).run _
  obtain ⟨t, ht, hc, hr⟩ := run_rest g
  have hlr : (restOps (runM (newM mode) ops)).length ≤ 3 := by unfold restOps; split <;> simp
  have hok : runOk mode (ops ++ restOps (runM (newM mode) ops)).length = true := by simp [runOk, hm]; omega
  have e : atM mode (ops ++ restOps (runM (newM mode) ops)) = hpOf t.begin.fin := by
    unfold atM
    rw [if_pos hok]
    congr 1
    rw [← hr]
    simp [runM, List.foldl_append]
  rw [e] at hZ ⊢
  have hE : Z = (obsP t.begin.fin.obs).map ObP.id := asc_unique hZ.1 (obsP_asc _) fun z => by
    rw [hZ.2 z, obsP_has]
    constructor
    · intro h
      have := h.has
      exact obsP_has.1 (by
        obtain ⟨_, o, ho, e⟩ := this
        rw [← e]
        exact List.mem_map_of_mem ho)
    · rintro ⟨o, ho⟩
      exact (keep_all ht hc ho).lv
  rw [hE]
  exact ⟨by simp [hpOf], rfl⟩
end Go.Proofs.Ytchcdlelaklnnaa
