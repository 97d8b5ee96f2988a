/- The search of the specification. -/
import Derived.Test.YtkpeimklcoggkaaRcF
namespace Go.Proofs.Ytkpeimklcoggkaa
set_option linter.unusedVariables false
open Go.ChangeShapes Go.WideShapes Go.ChangeAt Go.RowKit

theorem elemB : ∃ i, Try.prog.info? 4 = some i ∧ i.zero = some (.bool false) ∧ i.size = 1 ∧ i.bytes = 1 := by
  obtain ⟨i0, hi0⟩ : ∃ i, Try.prog.info? 4 = some i := Option.isSome_iff_exists.1 (by kernel_rfl)
  have hz : (Try.prog.info? 4).bind (·.zero) = some (.bool false) := by kernel_rfl
  refine ⟨i0, hi0, ?_, ?_, ?_⟩
  · rw [hi0] at hz; exact hz
  · have : (Try.prog.info? 4).map (·.size) = some 1 := by kernel_rfl
    rw [hi0] at this; exact Option.some.inj this
  · have : (Try.prog.info? 4).map (·.bytes) = some 1 := by kernel_rfl
    rw [hi0] at this; exact Option.some.inj this
theorem elemI : ∃ i, Try.prog.info? 2 = some i ∧ i.zero = some (.int .i64 0) ∧ i.size = 1 ∧ i.bytes = 8 := by
  obtain ⟨i0, hi0⟩ : ∃ i, Try.prog.info? 2 = some i := Option.isSome_iff_exists.1 (by kernel_rfl)
  have hz : (Try.prog.info? 2).bind (·.zero) = some (.int .i64 0) := by kernel_rfl
  refine ⟨i0, hi0, ?_, ?_, ?_⟩
  · rw [hi0] at hz; exact hz
  · have : (Try.prog.info? 2).map (·.size) = some 1 := by kernel_rfl
    rw [hi0] at this; exact Option.some.inj this
  · have : (Try.prog.info? 2).map (·.bytes) = some 8 := by kernel_rfl
    rw [hi0] at this; exact Option.some.inj this
/-- Where an object's values lie. -/
structure ObjAt (w : World) (b off : Nat) (objs : List ObjL) (m : Nat) (h : m < objs.length) (ua : Option Addr) (uc : Nat) : Prop where
  cell : w.cell? ⟨b, off + m * 3 + 2, none⟩ = some (.slice ua objs[m].vals.length uc)
  vals : ∀ j (hj : j < objs[m].vals.length), ∃ g o, ua = some ⟨g, o, none⟩ ∧ w.cell? ⟨g, o + j * 2, none⟩ = some (.int .i64 objs[m].vals[j].kind) ∧ w.cell? ⟨g, o + j * 2 + 1, none⟩ = some (.int .i64 objs[m].vals[j].n)
theorem objAt_of {own : Bool} {lo hi : Nat} {w : World} {a : Option Addr} {n c : Nat} {objs : List ObjL} (h : ListAt ObjR 3 own lo hi w (.slice a n c) objs) (m : Nat) (hm : m < objs.length) : ∃ b off ua uc, a = some ⟨b, off, none⟩ ∧ ObjAt w b off objs m hm ua uc := by
  obtain ⟨b, off, row, ha, hb, hl, hr, ⟨u, rfl, hu⟩⟩ := h.at m hm
  obtain ⟨ua, uc, rfl⟩ := hu.form
  refine ⟨b, off, ua, uc, ha, by simpa using hr 2 _ rfl, fun j hj => ?_⟩
  obtain ⟨g, o, row2, hua, hg, hl2, hr2, hx2⟩ := hu.at j hj
  have hx2 : row2 = [.int .i64 objs[m].vals[j].kind, .int .i64 objs[m].vals[j].n] := hx2
  subst hx2
  exact ⟨g, o, hua, by simpa using hr2 0 _ rfl, by simpa using hr2 1 _ rfl⟩
theorem objAt_at {own : Bool} {lo hi : Nat} {w : World} {b off n c : Nat} {objs : List ObjL} (h : ListAt ObjR 3 own lo hi w (.slice (some ⟨b, off, none⟩) n c) objs) (m : Nat) (hm : m < objs.length) : ∃ ua uc, ObjAt w b off objs m hm ua uc := by
  obtain ⟨b', off', ua, uc, e, h⟩ := objAt_of h m hm
  injection e with e
  injection e with e1 e2
  subst e1 e2
  exact ⟨ua, uc, h⟩
theorem own_cap {w : World} {base : Nat} {e : TypeId} {size g n c : Nat} {xs : List Value} (h : w.ownsRow base e size (.slice (some ⟨g, 0, none⟩) n c) n xs) : n ≤ c := by
  rcases h.2 with ⟨h, _⟩ | ⟨g', cap, cur, hv, _, _, h1, _⟩
  · cases h
  · cases hv; exact h1
theorem nil_or_snoc {α : Type} (l : List α) : l = [] ∨ ∃ l' t, l = l' ++ [t] := by
  rcases List.eq_nil_or_concat l with h | ⟨l', t, h⟩
  · exact .inl h
  · exact .inr ⟨l', t, by rw [h, List.concat_eq_append]⟩
theorem refsT_snoc (vs : List ValL) (j : Nat) (h : j < vs.length) : refsT (vs.take (j + 1)) = refsT (vs.take j) ++ (if vs[j].kind = 4 then [vs[j].n] else []) := by
  unfold refsT
  rw [List.take_succ_eq_append_getElem h, List.filter_append, List.map_append]
  congr 1
  by_cases e : vs[j].kind = 4 <;> simp [e]

def MarksQ (objs : List ObjL) (roots : List Int) (w : World) (e : Ending) (w' : World) : Prop := ∃ (g : Nat) (inn : List Bool), e = .returned (.slice (some ⟨g, 0, none⟩) (objs.length + 1) (objs.length + 1)) ∧ w.heap.size ≤ g ∧ g < w'.heap.size ∧ inn.length = objs.length + 1 ∧ (∀ n, inn[n]? = some true ↔ Rch objs.length roots (outOf objs) n) ∧ w'.ownsRow w.heap.size 4 1 (.slice (some ⟨g, 0, none⟩) inn.length inn.length) inn.length (inn.map Value.bool) ∧ Below w.heap.size w w'

set_option maxRecDepth 1000000 in
set_option maxHeartbeats 4000000 in
theorem marks_calls (v0 v1 : Value) (objs : List ObjL) (roots : List Int) (w : World) (own : Bool) (lo hi lo2 hi2 : Nat) (hh : hi ≤ w.heap.size) (hh2 : hi2 ≤ w.heap.size) (ho : ListAt ObjR 3 own lo hi w v0 objs) (hr : ListAt IntR 1 true lo2 hi2 w v1 roots) (hn : objs.length ≤ 1048576) (hn2 : roots.length ≤ 1048576) (hs : (objs.map (fun x => x.vals.length)).sum ≤ 1048576) :
    Calls Try.prog 15 #[v0, v1] w fun e w' => MarksQ objs roots w e w' := by
  obtain ⟨i4, hi4, hz4, hs4, hb4⟩ := elemB
  obtain ⟨i2, hi2', hz2, hs2, hb2⟩ := elemI
  obtain ⟨a0, c0, rfl⟩ := ho.form
  have hoH : Hid (∀ W, Below w.heap.size w W → ListAt ObjR 3 own lo hi W (.slice a0 objs.length c0) objs) := fun W hW => ho.kept ObjR.stable (Nat.le_refl _) (Nat.le_refl _) ((Same.below hW).mono (Nat.zero_le _) hh)
  rcases hr with ⟨hr, _⟩ | ⟨rb, roff, rc, rfl, hr1, hr2, hr3, hr4⟩
  · cases hr
  obtain ⟨rfl, hr5⟩ := hr3 rfl
  have hrc : ∀ j (h : j < roots.length), w.cell? ⟨rb, j, none⟩ = some (.int .i64 roots[j]) := fun j h => by
    obtain ⟨row, _, hrr, hx, _⟩ := hr4 j h
    have hx : row = [.int .i64 roots[j]] := hx
    simpa using hrr 0 _ (by rw [hx]; rfl)
  have hrb : rb < w.heap.size := by omega
  clear ho hr4 hr5 hr3 hr1 hr2 hh hh2
  obtain ⟨N, hN⟩ : ∃ N, N = objs.length := ⟨_, rfl⟩
  obtain ⟨R, hR⟩ : ∃ R, R = roots.length := ⟨_, rfl⟩
  have hNH : Hid (N = objs.length) := hN
  have hRH : Hid (R = roots.length) := hR
  have hsH : Hid ((objs.map (fun x => x.vals.length)).sum ≤ 1048576) := hs
  have hrcH : Hid (∀ j (h : j < roots.length), w.cell? ⟨rb, j, none⟩ = some (.int .i64 roots[j])) := hrc
  rw [← hN] at hn hoH ⊢
  rw [← hR] at hn2 ⊢
  clear hrc hN hR hs
  have hN0 : (0 : Int) ≤ N := by omega
  have hN1 : (N : Int) ≤ 1048576 := by omega
  have hnewsH : Hid (∀ W, Below w.heap.size w W → ∀ j u, (roots.map (Value.int .i64))[j]? = some u → W.cell? ((⟨rb, 0, none⟩ : Addr).add j) = some u) := fun W hW j u hu => by
    rw [List.getElem?_map] at hu
    obtain ⟨z, hz, rfl⟩ := Option.map_eq_some_iff.1 hu
    obtain ⟨hj, rfl⟩ := List.getElem?_eq_some_iff.1 hz
    rw [Addr.add_mid, Nat.zero_add, hW.cell (p := ⟨rb, j, none⟩) hrb]
    exact hrcH.out j hj
  have hlenH : Hid ((roots.map (Value.int .i64)).length = R * 1) := by show _ = _; rw [List.length_map, Nat.mul_one, hRH.out]
  have hmk1 : Hid (∀ w1 : World, w1.ownsRow w.heap.size 4 1 (.slice (some ⟨w.heap.size, 0, none⟩) (N + 1) (N + 1)) (N + 1) (madeCells (Value.bool false).cells ((N + 1) * 1)).toList → w.grownBy w1 none → MkW w (w1.alloc (.cells #[] 2)) w.heap.size (List.replicate (N + 1) false) (.slice (some ⟨w1.heap.size, 0, none⟩) 0 0) []) := fun w1 h1 h2 => by
    have e : (madeCells (Value.bool false).cells ((N + 1) * 1)).toList = (List.replicate (N + 1) false).map Value.bool := by
      rw [show (Value.bool false).cells = #[.bool false] from rfl, toList_madeCells_one, Nat.mul_one, List.map_replicate]
    rw [e] at h1
    refine ⟨((Below.refl _ _).grown h2 (Nat.le_refl _) (fun j hj => by cases hj)).alloc h2.size _, own_alloc (by simpa using h1) _, World.ownsRow_lit w1 #[] 0 h2.size (by unfold maxLen; omega) rfl, fun e => ?_⟩
    have : w1.heap.size = w.heap.size := by simpa [Value.ownBlock] using e
    have h9 : w.heap.size < w1.heap.size := (own_lt h1 rfl).2
    omega
  go_enter Try.func15, Try.ntmps15
  go_wp2_with (first
    | (refine wpList_make_full _ rfl (.tmp 11) (.tmp 11) 38 rfl w.heap.size 4 i4 (.bool false) 1 Try.underlying38 hi4 hz4 hs4 .i64 .i64 ((N : Int) + 1) ((N : Int) + 1) (N + 1) rfl rfl (by omega) (by omega) (by rw [hb4]; omega) (by unfold maxLen; omega) (Nat.le_refl _) ?_; intro w1 hown1 hgrow1)
    | (refine wpList_append_own_at _ rfl (.tmp 13) (.tmp 14) 23 rfl w.heap.size 2 i2 (.int .i64 0) 1 8 Try.underlying23 hi2' hz2 hs2 hb2 rfl (by omega) _ 0 [] rfl (hmk1.out w1 hown1 hgrow1).own6 ⟨rb, 0, none⟩ R rc (roots.map (Value.int .i64)) rfl hlenH.out (hnewsH.out _ (hmk1.out w1 hown1 hgrow1).hb) (by simp [Value.oneCell']) (by unfold maxLen; omega) (by omega) (hmk1.out w1 hown1 hgrow1).hb.size ?_; intro v6 w2 hown6 hgrow6 hnil6 hat6))
  have hM : Hid (MkW w w2 w.heap.size (List.replicate (N + 1) false) v6 roots) := by
    have := (hmk1.out w1 hown1 hgrow1).append (news := roots) (by simpa [hRH.out] using hown6) hgrow6 hat6
    show MkW _ _ _ _ _ _
    simpa using this
  clear hown1 hgrow1 hown6 hgrow6 hnil6 hat6 hmk1
  have hS : Hid (Srch N roots (outOf objs) (List.replicate (N + 1) false) roots) := Srch.start _ _ _
  have hK0 : Hid (wtF (outOf objs) 0 (List.replicate (N + 1) false) + roots.length ≤ 4194304) := by
    have h1 := wtF_start (outOf objs) (N + 1) 0
    have h2 := outOf_sum objs
    rw [← hNH.out] at h2
    have h3 := hsH.out
    have h4 := hRH.out
    show _ ≤ _
    omega
  clear hnewsH hlenH hrcH
  go_loopg [6] (wtF (outOf objs) 0 (List.replicate (N + 1) false) + roots.length) (fun k tv wr => ∃ (inn : List Bool) (todo : List Int), Hid (MkW w wr w.heap.size inn tv todo) ∧ Hid (Srch N roots (outOf objs) inn todo) ∧ Hid (k = wtF (outOf objs) 0 inn + todo.length) ∧ Hid (k ≤ 4194304))
  case atStart => exact ⟨_, _, hM, hS, rfl, hK0⟩
  case round =>
    obtain ⟨inn, todo, hM, hS, hk, hkb⟩ := hrel
    rcases nil_or_snoc todo with rfl | ⟨todo', t, rfl⟩
    · obtain ⟨ta, tc, rfl⟩ := own_form hM.out.own6
      have hfin : Hid (MarksQ objs roots w (.returned (.slice (some ⟨w.heap.size, 0, none⟩) (N + 1) (N + 1))) wr) := by
        have hlen := hS.out.len
        have hS2 := hS.out
        rw [hNH.out] at hS2
        exact ⟨w.heap.size, inn, by rw [hNH.out], Nat.le_refl _, hM.out.gi.2, by rw [hlen, hNH.out], fun n => hS2.done n, hM.out.own5, hM.out.hb⟩
      go_wp2
      go_ret
      exact hfin.out
    · obtain ⟨g, tc, rfl⟩ := own_some hM.out.own6 (by simp)
      obtain ⟨n', hn'⟩ : ∃ n', n' = todo'.length := ⟨_, rfl⟩
      have hll : (todo' ++ [t]).length = n' + 1 := by simp [hn']
      rw [hll] at hM
      have hct : wr.cell? ⟨g, n', none⟩ = some (.int .i64 t) := by
        have := hM.out.todoAt hll.symm n' (by omega)
        simpa [hn'] using this
      have hcap : n' + 1 ≤ tc := own_cap (n := n' + 1) (by have := hM.out.own6; rw [hll] at this; exact this)
      have hP : Hid (MkW w wr w.heap.size inn (.slice (some ⟨g, 0, none⟩) n' tc) todo') := hM.out.pop hn'
      have hk' : Hid (gk = wtF (outOf objs) 0 inn + (n' + 1)) := by show _ = _; rw [← hll]; exact hk.out
      have hnb : n' ≤ 4194304 := by have := hk'.out; have := hkb.out; omega
      have hn'H : Hid (n' = todo'.length) := hn'
      rw [hll]
      clear hk hM hn' hll
      have hn0 : (0 : Int) ≤ n' := by omega
      have hcap' : (n' : Int) ≤ tc := by omega
      have hnb' : (n' : Int) ≤ 4194304 := by omega
      by_cases ht1 : t < 1
      · have hS2 : Hid (Srch N roots (outOf objs) inn todo') := hS.out.skip (t := t) (fun x hx => by simpa [or_comm] using hx) (fun x hx => by simp [hx]) (.inl ht1)
        clear hS
        go_wp2
        go_roundg (wtF (outOf objs) 0 inn + n')
        case measure => have := hk'.out; omega
        case rel => exact ⟨inn, todo', hP, hS2, by rw [← hn'H.out]; rfl, by have := hk'.out; have := hkb.out; show _ ≤ _; omega⟩
      by_cases ht2 : (N : Int) < t
      · have hS2 : Hid (Srch N roots (outOf objs) inn todo') := hS.out.skip (t := t) (fun x hx => by simpa [or_comm] using hx) (fun x hx => by simp [hx]) (.inr (.inl ht2))
        clear hS
        go_wp2
        go_roundg (wtF (outOf objs) 0 inn + n')
        case measure => have := hk'.out; omega
        case rel => exact ⟨inn, todo', hP, hS2, by rw [← hn'H.out]; rfl, by have := hk'.out; have := hkb.out; show _ ≤ _; omega⟩
      obtain ⟨m, rfl⟩ : ∃ m : Nat, t = (m : Int) + 1 := ⟨(t - 1).toNat, by omega⟩
      have hmN : m < N := by omega
      have hmo : m < objs.length := by rw [← hNH.out]; exact hmN
      have hml : m + 1 < inn.length := by have := hS.out.len; omega
      obtain ⟨hic, hif⟩ := hP.out.inAt (m + 1) hml
      have hm0 : (0 : Int) ≤ m := by omega
      have hmN' : (m : Int) < N := by omega
      obtain ⟨bi, hbi⟩ : ∃ bi, inn[m + 1] = bi := ⟨_, rfl⟩
      have hbiH : Hid (inn[m + 1]? = some bi) := by show _ = _; rw [List.getElem?_eq_getElem hml, hbi]
      rw [hbi] at hic
      clear hbi ht1 ht2
      cases bi
      · obtain ⟨b, off, ua0, uc0, rfl, _⟩ := objAt_of (hoH.out wr hP.out.hb) m hmo
        have hoK : Hid (∀ W, Below w.heap.size w W → ∃ ua uc, ObjAt W b off objs m hmo ua uc) := fun W hW => objAt_at (hoH.out W hW) m hmo
        obtain ⟨vs, hvs⟩ : ∃ vs, vs = objs[m].vals := ⟨_, rfl⟩
        have hvsH : Hid (vs = objs[m].vals) := hvs
        have hout : Hid (outOf objs (m + 1) = refsT vs) := by
          show _ = _
          rw [outOf_eq (by omega) (by omega), hvs]; rfl
        have hvl : Hid (vs.length ≤ 1048576) := by
          have h1 := sum_mem_le (fun x : ObjL => x.vals.length) objs objs[m] (List.getElem_mem hmo)
          have h2 := hsH.out
          show _ ≤ _
          rw [hvs]; omega
        have hvb : (vs.length : Int) ≤ 1048576 := by have := hvl.out; omega
        have hwt : Hid (wtF (outOf objs) 0 (inn.set (m + 1) true) + (1 + (refsT vs).length) = wtF (outOf objs) 0 inn) := by
          have := wtF_set (outOf objs) inn 0 (m + 1) hbiH.out
          rw [Nat.zero_add, hout.out] at this; exact this
        have hS2 : Hid (Srch N roots (outOf objs) (inn.set (m + 1) true) (todo' ++ refsT vs)) := hS.out.mark (t := m + 1) (fun x hx => by
            rcases List.mem_append.1 hx with q | q
            · exact .inr (List.mem_append_left _ q)
            · left; simpa using q) (fun x hx => by
            rcases List.mem_append.1 hx with q | q
            · exact .inl (List.mem_append_left _ q)
            · right; rw [hout.out]; exact q) (fun x hx => List.mem_append_right _ (by rw [hout.out] at hx; exact hx)) (by simp) (by omega) (by omega)
        have hP2 : Hid (MkW w (wr.setCell ⟨w.heap.size, m + 1, none⟩ (.bool true)) w.heap.size (inn.set (m + 1) true) (.slice (some ⟨g, 0, none⟩) n' tc) todo') := hP.out.set (m + 1) true
        clear hS hout hvs hP hbiH
        go_wp2_with fail
        obtain ⟨W1, hW1⟩ : ∃ W1, W1 = wr.setCell ⟨w.heap.size, m + 1, none⟩ (.bool true) := ⟨_, rfl⟩
        rw [← hW1] at hP2 ⊢
        clear hW1 hic hif hct
        rename World => wro
        go_loopw [6, 8] (fun tv iv wr2 => ∃ i : Nat, i ≤ vs.length ∧ iv = .int .i64 i ∧ Hid (MkW w wr2 w.heap.size (inn.set (m + 1) true) tv (todo' ++ refsT (vs.take i)))) (fun _ iv _ => vs.length - (intOf iv).toNat)
        case atStart => exact ⟨0, Nat.zero_le _, rfl, by simpa [refsT] using hP2⟩
        case round =>
          obtain ⟨i, hi, rfl, hM⟩ := hrel
          obtain ⟨ua, uc, hO⟩ := hoK.out wr hM.out.hb
          have hcv : wr.cell? ⟨b, off + m * 3 + 2, none⟩ = some (.slice ua vs.length uc) := by rw [hvsH.out]; exact hO.cell
          obtain ⟨ln, hln⟩ : ∃ ln, ln = (todo' ++ refsT (vs.take i)).length := ⟨_, rfl⟩
          have hlb : ln ≤ 8388608 := by
            rw [hln, List.length_append]
            have := refsT_length (vs.take i)
            have := List.length_take_le i vs
            have := hvl.out
            have := hn'H.out
            omega
          obtain ⟨ta', tc', rfl⟩ := own_form hM.out.own6
          have hlnH : Hid (ln = (todo' ++ refsT (vs.take i)).length) := hln
          rw [← hln] at hM ⊢
          clear hln
          by_cases hlt : i < vs.length
          · have hlt' : (i : Int) < vs.length := by omega
            have hi0 : (0 : Int) ≤ i := by omega
            have hlo : i < objs[m].vals.length := by rw [← hvsH.out]; exact hlt
            obtain ⟨gv, ov, rfl, hkc, hnc⟩ := hO.vals i hlo
            have hsn : Hid (refsT (vs.take (i + 1)) = refsT (vs.take i) ++ (if objs[m].vals[i].kind = 4 then [objs[m].vals[i].n] else [])) := by
              have := refsT_snoc vs i hlt
              show _ = _
              rw [this]
              have e : vs[i] = objs[m].vals[i] := by simp only [hvsH.out]
              rw [e]
            generalize objs[m].vals[i].kind = kd at *
            generalize objs[m].vals[i].n = z at *
            clear hO hlo
            by_cases k4 : kd = 4
            · subst k4
              have hM1 : Hid (MkW w (wr.alloc (.cells #[.int .i64 z] 2)) w.heap.size (inn.set (m + 1) true) (.slice ta' ln tc') (todo' ++ refsT (vs.take i))) := hM.out.alloc _
              have hown : Hid ((wr.alloc (.cells #[.int .i64 z] 2)).ownsRow w.heap.size 2 1 (.slice ta' ln tc') ln ((todo' ++ refsT (vs.take i)).map (Value.int .i64))) := by
                have := hM1.out.own6
                rw [← hlnH.out] at this; exact this
              go_wp2_with (first
                | (refine wpList_append_own_at _ rfl (.tmp 69) (.tmp 80) 23 rfl w.heap.size 2 i2 (.int .i64 0) 1 8 Try.underlying23 hi2' hz2 hs2 hb2 rfl (by omega) _ ln _ rfl hown.out ⟨wr.heap.size, 0, none⟩ 1 1 [.int .i64 z] rfl rfl (cell_one_new _ _ _) (by simp [Value.oneCell']) (by unfold maxLen; omega) (by omega) hM1.out.hb.size ?_; intro v' w' h1 h2 h3 h4))
              go_roundw
              case rel =>
                refine ⟨i + 1, by omega, by go_num, ?_⟩
                have := hM1.out.append (news := [z]) (by rw [← hlnH.out]; exact h1) h2 h4
                rw [List.append_assoc] at this
                show MkW _ _ _ _ _ _
                rw [hsn.out, if_pos rfl]; exact this
              case measure => simp [intOf]; omega
            · have kb : (kd == 4) = false := by simpa using k4
              go_wp2
              go_roundw
              case rel =>
                refine ⟨i + 1, by omega, by go_num, ?_⟩
                show MkW _ _ _ _ _ _
                rw [hsn.out, if_neg k4, List.append_nil]; exact hM.out
              case measure => simp [intOf]; omega
          · have hie : i = vs.length := by omega
            have hM3 : Hid (MkW w wr w.heap.size (inn.set (m + 1) true) (.slice ta' ln tc') (todo' ++ refsT vs)) := by
              have := hM.out
              rw [hie, List.take_length] at this; exact this
            clear hM hlnH hO
            go_wp2
            go_roundg (wtF (outOf objs) 0 (inn.set (m + 1) true) + (todo' ++ refsT vs).length)
            case measure => have := hk'.out; have := hwt.out; have := hn'H.out; rw [List.length_append]; omega
            case rel => exact ⟨_, _, hM3, hS2, rfl, by have := hk'.out; have := hwt.out; have := hn'H.out; have := hkb.out; show _ ≤ _; rw [List.length_append]; omega⟩
      · have hS2 : Hid (Srch N roots (outOf objs) inn todo') := hS.out.skip (t := (m : Int) + 1) (fun x hx => by simpa [or_comm] using hx) (fun x hx => by simp [hx]) (.inr (.inr (by rw [show ((m : Int) + 1).toNat = m + 1 by omega]; exact hbiH.out)))
        clear hS
        go_wp2
        go_roundg (wtF (outOf objs) 0 inn + n')
        case measure => have := hk'.out; omega
        case rel => exact ⟨inn, todo', hP, hS2, by rw [← hn'H.out]; rfl, by have := hk'.out; have := hkb.out; show _ ≤ _; omega⟩
end Go.Proofs.Ytkpeimklcoggkaa
