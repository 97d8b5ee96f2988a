/- Answers of runs in memory; the specification's run. -/
import Derived.Test.YtchcdlelaklnnaaMkP
import Derived.Test.YtchcdlelaklnnaaMrB
import Derived.Test.YtchcdlelaklnnaaKmQ
namespace Go.Proofs.Ytchcdlelaklnnaa
set_option linter.unusedVariables false
open Go.ChangeShapes Go.WideShapes Go.ChangeAt Go.RowKit

theorem out_ints {B : Nat} {w : World} {v : Value} {zs : List Int} (h : OutAt B w v zs) : IntsAt B w.heap.size w v zs := by
  have h0 := h
  rcases h.2 with ⟨rfl, q⟩ | ⟨g, cap, cur, rfl, hb, hg, h1, _, hsz, htk⟩
  · have : zs = [] := List.eq_nil_of_length_eq_zero q
    exact .inl ⟨this, _, _, rfl⟩
  · refine .inr ⟨g, cap, rfl, hb, lt_of hg, fun j hj => ⟨?_, free_of hg⟩, fun j hj => OutAt.cell h0 hj⟩
    rw [Nat.zero_add, World.ownsRow.cellAt h0 j (by omega)]
    simp [intsV, hj]
/-- A row of answers, to be read. -/
structure AnsR (lo hi : Nat) (w : World) (v : Value) (xs : List AnsM) : Prop where
  form : ∃ a c, v = .slice a xs.length c
  at_ : ∀ j (hj : j < xs.length), ∃ b o c gv, v = .slice (some ⟨b, o, none⟩) xs.length c ∧ lo ≤ b ∧ b < hi ∧ (∀ i u, [Value.int .i64 xs[j].code, .int .i64 xs[j].n, .int .i64 xs[j].grey, gv][i]? = some u → w.cell? ⟨b, o + j * 4 + i, none⟩ = some u) ∧ IntsAt lo hi w gv xs[j].gone
theorem AnsR.kept {lo hi : Nat} {w w' : World} {v : Value} {xs : List AnsM} (h : AnsR lo hi w v xs) (hs : Same lo hi w w') : AnsR lo hi w' v xs := ⟨h.form, fun j hj => by
  obtain ⟨b, o, c, gv, h1, h2, h3, h4, h5⟩ := h.at_ j hj
  exact ⟨b, o, c, gv, h1, h2, h3, fun i u hu => by rw [(hs ⟨b, o + j * 4 + i, none⟩ h2 h3).1]; exact h4 i u hu, h5.kept hs⟩⟩
theorem AnsR.mono {lo hi lo' hi' : Nat} {w : World} {v : Value} {xs : List AnsM} (h : AnsR lo hi w v xs) (h1 : lo' ≤ lo) (h2 : hi ≤ hi') : AnsR lo' hi' w v xs := ⟨h.form, fun j hj => by
  obtain ⟨b, o, c, gv, g1, g2, g3, g4, g5⟩ := h.at_ j hj
  exact ⟨b, o, c, gv, g1, by omega, by omega, g4, g5.mono h1 h2⟩⟩
def runOk (mode : Int) (n : Nat) : Bool := (decide (mode = 1) || decide (mode = 2)) && decide (n ≤ 500)
def ansRun (mode : Int) (ops : List OpM) : List AnsM := if runOk mode ops.length then ansL (newM mode) ops else []
theorem ansL_length : ∀ (ops : List OpM) (s : StM), (ansL s ops).length = ops.length
  | [], _ => rfl
  | op :: ops, s => by simp [ansL, ansL_length ops]
theorem runM_snoc (s : StM) (ops : List OpM) (op : OpM) : runM s (ops ++ [op]) = doM (runM s ops) op := by simp [runM, List.foldl_append]
theorem ansL_snoc : ∀ (ops : List OpM) (s : StM) (op : OpM), ansL s (ops ++ [op]) = ansL s ops ++ [ansM (runM s ops) op]
  | [], _, _ => rfl
  | o :: ops, s, op => by
    show ansM s o :: ansL (doM s o) (ops ++ [op]) = _
    rw [ansL_snoc ops (doM s o) op]
    rfl
theorem ops_snoc {ops : List OpM} {m : Nat} (h : m < ops.length) : ops.take (m + 1) = ops.take m ++ [ops[m]] := by rw [List.take_add_one, List.getElem?_eq_getElem h]; rfl
/-- The cells of answers. -/
def ansC : List AnsM → List Value → List Value
  | x :: xs, g :: gs => .int .i64 x.code :: .int .i64 x.n :: .int .i64 x.grey :: g :: ansC xs gs
  | _, _ => []
theorem ansC_length : ∀ (xs : List AnsM) (gs : List Value), gs.length = xs.length → (ansC xs gs).length = xs.length * 4
  | [], [], _ => rfl
  | x :: xs, g :: gs, h => by
    have := ansC_length xs gs (by simpa using h)
    simp [ansC, this]
    omega
  | [], _ :: _, h => by simp at h
  | _ :: _, [], h => by simp at h
theorem ansC_snoc : ∀ (xs : List AnsM) (gs : List Value) (x : AnsM) (g : Value), gs.length = xs.length → ansC (xs ++ [x]) (gs ++ [g]) = ansC xs gs ++ [.int .i64 x.code, .int .i64 x.n, .int .i64 x.grey, g]
  | [], [], x, g, _ => rfl
  | y :: xs, k :: gs, x, g, h => by
    show _ :: _ :: _ :: _ :: ansC (xs ++ [x]) (gs ++ [g]) = _
    rw [ansC_snoc xs gs x g (by simpa using h)]
    rfl
  | [], _ :: _, _, _, h => by simp at h
  | _ :: _, [], _, _, h => by simp at h
theorem ansC_get : ∀ (xs : List AnsM) (gs : List Value) (j : Nat) (hj : j < xs.length) (hg : gs.length = xs.length) (i : Nat) (u : Value), [Value.int .i64 xs[j].code, .int .i64 xs[j].n, .int .i64 xs[j].grey, gs[j]'(by omega)][i]? = some u → (ansC xs gs)[j * 4 + i]? = some u
  | x :: xs, g :: gs, 0, _, _, i, u, h => by
    rw [Nat.zero_mul, Nat.zero_add]
    match i, h with
    | 0, h => exact h
    | 1, h => exact h
    | 2, h => exact h
    | 3, h => exact h
    | i + 4, h => simp at h
  | x :: xs, g :: gs, j + 1, hj, hg, i, u, h => by
    have := ansC_get xs gs j (by simpa using hj) (by simpa using hg) i u h
    rw [show (j + 1) * 4 + i = j * 4 + i + 4 by omega]
    exact this
  | [], _, _, hj, _, _, _, _ => by simp at hj
  | _ :: _, [], _, _, h, _, _, _ => by simp at h
theorem ansC_one : ∀ (xs : List AnsM) (gs : List Value), (∀ g ∈ gs, g.oneCell' = true) → ∀ u ∈ ansC xs gs, u.oneCell' = true
  | x :: xs, g :: gs, h, u, hu => by
    simp only [ansC, List.mem_cons] at hu
    rcases hu with rfl | rfl | rfl | rfl | hu
    · rfl
    · rfl
    · rfl
    · exact h _ (by simp)
    · exact ansC_one xs gs (fun g hg => h g (by simp [hg])) u hu
  | [], _, _, u, hu => by simp [ansC] at hu
  | _ :: _, [], _, u, hu => by simp [ansC] at hu
/-- The rows of those that went, each with its value. -/
def GoneL (B : Nat) (w : World) (gs : List Value) (xs : List AnsM) : Prop := gs.length = xs.length ∧ ∀ j (hj : j < xs.length), ∃ g, gs[j]? = some g ∧ OutAt B w g xs[j].gone
theorem slice_one (a : Option Addr) (n c : Nat) : (Value.slice a n c).oneCell' = true := by simp [Value.oneCell']
theorem GoneL.one {B : Nat} {w : World} {gs : List Value} {xs : List AnsM} (h : GoneL B w gs xs) : ∀ g ∈ gs, g.oneCell' = true := fun g hg => by
  obtain ⟨j, hj, rfl⟩ := List.mem_iff_getElem.1 hg
  obtain ⟨g, h1, h2⟩ := h.2 j (by rw [← h.1]; exact hj)
  rw [List.getElem?_eq_getElem hj] at h1
  injection h1 with h1
  rw [h1]
  obtain ⟨a, c, e⟩ := own_slice h2
  rw [e]
  exact slice_one _ _ _
theorem GoneL.kept {B : Nat} {w w' : World} {gs : List Value} {xs : List AnsM} (h : GoneL B w gs xs) (hk : ∀ g ∈ gs, ∀ k, g.ownBlock = some k → w'.heap[k]? = w.heap[k]?) : GoneL B w' gs xs := ⟨h.1, fun j hj => by
  obtain ⟨g, h1, h2⟩ := h.2 j hj
  exact ⟨g, h1, own_kept h2 (hk g (List.mem_of_getElem? h1))⟩⟩
theorem GoneL.snoc {B : Nat} {w : World} {gs : List Value} {xs : List AnsM} {g : Value} {x : AnsM} (h : GoneL B w gs xs) (hg : OutAt B w g x.gone) : GoneL B w (gs ++ [g]) (xs ++ [x]) := ⟨by simp [h.1], fun j hj => by
  by_cases e : j < xs.length
  · obtain ⟨g', h1, h2⟩ := h.2 j e
    exact ⟨g', by rw [List.getElem?_append_left (by rw [h.1]; exact e)]; exact h1, by rw [List.getElem_append_left e]; exact h2⟩
  · have ej : j = xs.length := by simp at hj; omega
    subst ej
    refine ⟨g, ?_, ?_⟩
    · rw [← h.1]; simp
    · simp only [List.getElem_append_right (Nat.le_refl _), Nat.sub_self, List.getElem_cons_zero]
      exact hg⟩
/-- Where the specification's run stands. -/
structure RunS (w wr : World) (H : Nat) (R : Nat) (s : StM) (out : Value) (xs : List AnsM) (G : Nat → Prop) (ps fs : List Nat) (ov qv : Value) (gs : List Value) : Prop where
  sp : SpW wr G H s ps fs ov R qv
  hb : Below w.heap.size w wr
  low : ∀ k, k < w.heap.size → G k
  row : wr.ownsRow w.heap.size 43 4 out xs.length (ansC xs gs)
  ro : ∀ k, out.ownBlock = some k → G k
  go : GoneL w.heap.size wr gs xs
  gG : ∀ g ∈ gs, ∀ k, g.ownBlock = some k → G k
theorem RunS.ans {w wr : World} {H R : Nat} {s : StM} {out : Value} {xs : List AnsM} {G : Nat → Prop} {ps fs : List Nat} {ov qv : Value} {gs : List Value} (h : RunS w wr H R s out xs G ps fs ov qv gs) : AnsR w.heap.size wr.heap.size wr out xs := by
  refine ⟨own_slice h.row, fun j hj => ?_⟩
  obtain ⟨g, c, e⟩ := own_some h.row (by omega)
  obtain ⟨gv, h1, h2⟩ := h.go.2 j hj
  have hl := World.ownsRow.lt h.row g (by rw [e]; rfl)
  have hgl : j < gs.length := by rw [h.go.1]; exact hj
  refine ⟨g, 0, c, gv, e, hl.1, hl.2, fun i u hu => ?_, out_ints h2⟩
  have e2 : gv = gs[j]'hgl := by rw [List.getElem?_eq_getElem hgl] at h1; injection h1 with h1; exact h1.symm
  rw [e2] at hu
  have hc := ansC_get xs gs j hj h.go.1 i u hu
  have hrow := h.row
  rw [e] at hrow
  have hil : j * 4 + i < (ansC xs gs).length := (List.getElem?_eq_some_iff.1 hc).1
  rw [show 0 + j * 4 + i = j * 4 + i by omega, World.ownsRow.cellAt hrow (j * 4 + i) (by rw [ansC_length _ _ h.go.1] at hil; exact hil)]
  exact hc
end Go.Proofs.Ytchcdlelaklnnaa

/- The specification's run. -/
namespace Go.Proofs.Ytchcdlelaklnnaa
set_option linter.unusedVariables false
open Go.ChangeShapes Go.WideShapes Go.ChangeAt Go.RowKit

theorem obs_info : ∃ i0 : TypeInfo, Try.prog.info? 43 = some i0 ∧ i0.zero = some (.agg #[.int .i64 0, .int .i64 0, .int .i64 0, .slice none 0 0]) ∧ i0.size = 4 ∧ i0.bytes = 48 := info_parts (show (Try.prog.info? 43).map (fun i => (i.zero, i.size, i.bytes)) = some (some (.agg #[.int .i64 0, .int .i64 0, .int .i64 0, .slice none 0 0]), 4, 48) by kernel_rfl)
theorem RunS.next {w wr W w3 : World} {H R : Nat} {s s' : StM} {out out' gv : Value} {xs : List AnsM} {x : AnsM} {G : Nat → Prop} {ps fs ps' fs' : List Nat} {ov qv ov' qv' : Value} {gs : List Value} {ob : Obj} (h : RunS w wr H R s out xs G ps fs ov qv gs)
    (hs : SpW W (fun k => G k ∨ gv.ownBlock = some k) H s' ps' fs' ov' R qv') (hk : Keep G wr W) (ho : OutAt wr.heap.size W gv x.gone)
    (hg : (W.alloc ob).grownBy w3 out.ownBlock) (hr : w3.ownsRow w.heap.size 43 4 out' (xs.length + 1) (ansC xs gs ++ [.int .i64 x.code, .int .i64 x.n, .int .i64 x.grey, gv])) (ha : out'.ownBlock = out.ownBlock ∨ out'.ownBlock = some (W.alloc ob).heap.size) :
    RunS w w3 H R s' out' (xs ++ [x]) (fun k => (G k ∨ gv.ownBlock = some k) ∨ out'.ownBlock = some k) ps' fs' ov' qv' (gs ++ [gv]) := by
  have s1 : (W.alloc ob).heap.size = W.heap.size + 1 := World.size_alloc _ _
  have s2 := hg.size
  have s3 := hk.size
  have s4 := h.hb.size
  have kp : ∀ k, k < W.heap.size → out.ownBlock ≠ some k → w3.heap[k]? = W.heap[k]? := fun k hk hq => by
    rw [hg.block k (by omega) (fun e => hq e.symm), Below.heap_alloc _ _ _ hk]
  have hout : ∀ k, out.ownBlock = some k → w.heap.size ≤ k ∧ k < wr.heap.size := fun k q => World.ownsRow.lt h.row k q
  have hnew : ∀ k, k < W.heap.size → out'.ownBlock = some k → out.ownBlock = some k := fun k hk q => by
    rcases ha with e | e
    · exact e.symm.trans q
    · rw [e] at q
      injection q with q
      omega
  have htag : ∀ k, out.ownBlock = some k → ∃ cur, W.heap[k]? = some (.cells cur 43 (0, 0)) := fun k q => by
    obtain ⟨cur, b⟩ := own_tag h.row q
    exact ⟨cur, (hk.block k (h.ro k q)).trans b⟩
  refine ⟨?_, ?_, fun k hk => .inl (.inl (h.low k hk)), ?_, fun k q => .inr q, ?_, fun g hgm k q => ?_⟩
  · refine hs.mv (fun k hkl hn => ⟨kp k hkl fun q => hn (.inl (h.ro k q)), fun q => ?_⟩) fun k q => ?_
    · rcases q with q | q
      · exact hn q
      · exact hn (.inl (h.ro k (hnew k hkl q)))
    · rcases q with q | q
      · have := hs.lo.2.2 k q
        omega
      · exact (World.ownsRow.lt hr k q).2
  · refine ⟨hg.os.trans (hk.os.trans h.hb.os), hg.tape.trans (hk.tape.trans h.hb.tape), hg.output.trans (hk.output.trans h.hb.output), by omega, fun k hkl => ?_⟩
    rw [kp k (by omega) (fun q => by have := hout k q; omega), hk.block k (h.low k hkl)]
    exact h.hb.block k hkl
  · rw [List.length_append, ansC_snoc _ _ _ _ h.go.1]
    exact hr
  · refine GoneL.snoc (h.go.kept fun g hgm k q => ?_) (own_mono (own_kept ho fun k q => ?_) s4)
    · have hG := h.gG g hgm k q
      have hkl : k < W.heap.size := by have := hs.lo.2.2 k (.inl hG); omega
      rw [kp k hkl, hk.block k hG]
      intro r
      obtain ⟨c1, b1⟩ := htag k r
      obtain ⟨j, hj, e⟩ := List.mem_iff_getElem.1 hgm
      obtain ⟨g', h1, h2⟩ := h.go.2 j (by rw [← h.go.1]; exact hj)
      rw [List.getElem?_eq_getElem hj, e] at h1
      injection h1 with h1
      subst h1
      obtain ⟨c2, b2⟩ := own_tag h2 q
      exact tag_ne b1 ((hk.block k hG).trans b2) (by decide) rfl
    · refine kp k (World.ownsRow.lt ho k q).2 fun r => ?_
      obtain ⟨c1, b1⟩ := htag k r
      obtain ⟨c2, b2⟩ := own_tag ho q
      exact tag_ne b1 b2 (by decide) rfl
  · rcases List.mem_append.1 hgm with hgm | hgm
    · exact .inl (.inl (h.gG g hgm k q))
    · have : g = gv := by simpa using hgm
      subst this
      exact .inl (.inr q)
set_option maxRecDepth 100000 in
theorem okS_calls (mode : Int) (a : Option Addr) (n c : Nat) (w : World) : Calls Try.prog 21 #[.int .i64 mode, .slice a n c] w fun e w' => e = .returned (.bool (runOk mode n)) ∧ w' = w := by
  obtain ⟨q, hq⟩ : ∃ q, q = runOk mode n := ⟨_, rfl⟩
  have hqH : Hid (q = runOk mode n) := hq
  rw [← hq]
  clear hq
  by_cases h1 : mode = 1
  · subst h1
    have hf : Hid (q = decide (n ≤ 500)) := by show q = _; rw [hqH.out]; simp [runOk]
    by_cases hn : n ≤ 500
    · have hn' : (n : Int) ≤ 500 := by omega
      go_enter Try.func21, Try.ntmps21
      go_wp2
      go_ret
      exact ⟨by rw [hf.out]; simp [hn], rfl⟩
    · have hn' : ¬ (n : Int) ≤ 500 := by omega
      go_enter Try.func21, Try.ntmps21
      go_wp2
      go_ret
      exact ⟨by rw [hf.out]; simp [hn], rfl⟩
  · by_cases h2 : mode = 2
    · subst h2
      have hf : Hid (q = decide (n ≤ 500)) := by show q = _; rw [hqH.out]; simp [runOk]
      by_cases hn : n ≤ 500
      · have hn' : (n : Int) ≤ 500 := by omega
        go_enter Try.func21, Try.ntmps21
        go_wp2
        go_ret
        exact ⟨by rw [hf.out]; simp [hn], rfl⟩
      · have hn' : ¬ (n : Int) ≤ 500 := by omega
        go_enter Try.func21, Try.ntmps21
        go_wp2
        go_ret
        exact ⟨by rw [hf.out]; simp [hn], rfl⟩
    · have hf : Hid (q = false) := by show q = _; rw [hqH.out]; simp [runOk, h1, h2]
      go_enter Try.func21, Try.ntmps21
      go_wp2
      go_ret
      exact ⟨by rw [hf.out]; first | rfl | simp [h1, h2], rfl⟩
end Go.Proofs.Ytchcdlelaklnnaa
