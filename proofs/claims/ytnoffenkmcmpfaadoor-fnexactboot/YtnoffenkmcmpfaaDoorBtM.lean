/- spec's helpers of Boot; methods from a bound on. -/
import Derived.Test.YtnoffenkmcmpfaaDoorBtG
namespace Go.Proofs.YtnoffenkmcmpfaaDoor
set_option linter.unusedVariables false
open Go.ChangeShapes Go.WideShapes Go.ChangeAt Go.RowKit

set_option maxRecDepth 1000000 in
theorem l2Return_calls  (w : World) : Calls Tryd.prog 9 #[] w fun e w' => e = .returned (.agg #[.int .i64 44, .int .i64 0, .int .i64 0, .int .i64 0, .string ⟨#[]⟩, .string ⟨#[]⟩, .string ⟨#[]⟩, .string ⟨#[]⟩, .slice none 0 0]) ∧ Below w.heap.size w w' := by
  go_enter Tryd.func9, Tryd.ntmps9
  go_wp2
  refine bodyPost_ret (v := .agg #[.int .i64 44, .int .i64 0, .int .i64 0, .int .i64 0, .string ⟨#[]⟩, .string ⟨#[]⟩, .string ⟨#[]⟩, .string ⟨#[]⟩, .slice none 0 0]) (results_cell_mid rfl _ _ w.heap.size [.int .i64 44, .int .i64 0, .int .i64 0, .int .i64 0, .string ⟨#[]⟩, .string ⟨#[]⟩, .string ⟨#[]⟩, .string ⟨#[]⟩, .slice none 0 0] _ rfl (rangeAt_heap (heap_alloc_new w _)) Tryd.underlying29 rfl (by kernel_rfl)) rfl ⟨rfl, below_1 _ _⟩

set_option maxRecDepth 1000000 in
theorem l2Native_calls (n s : ByteArray) (f : Int) (h0 : 0 ≤ f) (h1 : f ≤ 2) (w : World) : Calls Tryd.prog 10 #[.string n, .string s, .int .i64 f] w fun e w' => e = .returned (.agg #[.string n, .string s, .int .i64 (f + 64), .int .i64 0, .int .i64 0, .slice none 0 0, .slice none 0 0, .slice none 0 0, .slice none 0 0]) ∧ Below w.heap.size w w' := by
  go_enter Tryd.func10, Tryd.ntmps10
  go_wp2
  refine bodyPost_ret (v := .agg #[.string n, .string s, .int .i64 (f + 64), .int .i64 0, .int .i64 0, .slice none 0 0, .slice none 0 0, .slice none 0 0, .slice none 0 0]) (results_cell_mid rfl _ _ w.heap.size [.string n, .string s, .int .i64 (f + 64), .int .i64 0, .int .i64 0, .slice none 0 0, .slice none 0 0, .slice none 0 0, .slice none 0 0] _ rfl (rangeAt_heap (heap_alloc_new w _)) Tryd.underlying36 rfl (by kernel_rfl)) rfl ⟨rfl, below_1 _ _⟩

set_option maxRecDepth 1000000 in
theorem l2Load_calls (k p : Int) (w : World) : Calls Tryd.prog 11 #[.int .i64 k, .int .i64 p] w fun e w' => e = .returned (.agg #[.int .i64 4, .int .i64 k, .int .i64 p, .int .i64 0, .string ⟨#[]⟩, .string ⟨#[]⟩, .string ⟨#[]⟩, .string ⟨#[]⟩, .slice none 0 0]) ∧ Below w.heap.size w w' := by
  go_enter Tryd.func11, Tryd.ntmps11
  go_wp2
  refine bodyPost_ret (v := .agg #[.int .i64 4, .int .i64 k, .int .i64 p, .int .i64 0, .string ⟨#[]⟩, .string ⟨#[]⟩, .string ⟨#[]⟩, .string ⟨#[]⟩, .slice none 0 0]) (results_cell_mid rfl _ _ w.heap.size [.int .i64 4, .int .i64 k, .int .i64 p, .int .i64 0, .string ⟨#[]⟩, .string ⟨#[]⟩, .string ⟨#[]⟩, .string ⟨#[]⟩, .slice none 0 0] _ rfl (rangeAt_heap (heap_alloc_new w _)) Tryd.underlying29 rfl (by kernel_rfl)) rfl ⟨rfl, below_1 _ _⟩

set_option maxRecDepth 1000000 in
theorem l2Call_calls (h : Int) (c n s : ByteArray) (w : World) : Calls Tryd.prog 12 #[.int .i64 h, .string c, .string n, .string s] w fun e w' => e = .returned (.agg #[.int .i64 33, .int .i64 0, .int .i64 0, .int .i64 h, .string ⟨#[]⟩, .string c, .string n, .string s, .slice none 0 0]) ∧ Below w.heap.size w w' := by
  go_enter Tryd.func12, Tryd.ntmps12
  go_wp2
  refine bodyPost_ret (v := .agg #[.int .i64 33, .int .i64 0, .int .i64 0, .int .i64 h, .string ⟨#[]⟩, .string c, .string n, .string s, .slice none 0 0]) (results_cell_mid rfl _ _ w.heap.size [.int .i64 33, .int .i64 0, .int .i64 0, .int .i64 h, .string ⟨#[]⟩, .string c, .string n, .string s, .slice none 0 0] _ rfl (rangeAt_heap (heap_alloc_new w _)) Tryd.underlying29 rfl (by kernel_rfl)) rfl ⟨rfl, below_1 _ _⟩

/-- The methods' blocks, from the number B on. -/
def MethsB (B : Nat) (ms : Meths) (W : World) : Prop := (∀ m ∈ ms, ListF InsF 9 29 W m.2.1 m.1.code m.2.2) ∧ ms.foot.Nodup ∧ ∀ b ∈ ms.foot, B ≤ b
theorem MethsB.lt {B : Nat} {W : World} {ms : Meths} (h : MethsB B ms W) : ∀ b ∈ ms.foot, b < W.heap.size := fun b hb => by
  obtain ⟨G, hG, hbG⟩ := List.mem_flatten.1 hb
  obtain ⟨m, hm, rfl⟩ := List.mem_map.1 hG
  exact (h.1 m hm).lt InsF.good b hbG
theorem MethsB.call {B : Nat} {W W' : World} {ms : Meths} (h : MethsB B ms W) (hb : Below W.heap.size W W') : MethsB B ms W' := ⟨fun m hm => (h.1 m hm).below InsF.good hb, h.2⟩
theorem MethsB.nil (B : Nat) (W : World) : MethsB B [] W := ⟨fun m hm => (List.not_mem_nil hm).elim, List.nodup_nil, fun b hb => (List.not_mem_nil hb).elim⟩
theorem MethsB.native {B : Nat} {W : World} {ms : Meths} (h : MethsB B ms W) (x : MethL) (hx : x.code = []) : MethsB B (ms ++ [(x, nilV, [])]) W := by
  refine ⟨fun m hm => ?_, ?_, ?_⟩
  · rcases List.mem_append.1 hm with hm | hm
    · exact h.1 m hm
    · simp only [List.mem_singleton] at hm
      subst hm
      exact .inl ⟨hx, rfl, rfl⟩
  · have := h.2.1
    simpa [Meths.foot] using this
  · have := h.2.2
    simpa [Meths.foot] using this
theorem MethsB.written {B : Nat} {W : World} {ms : Meths} (h : MethsB B ms W) (x : MethL) (b c : Nat) (cur : Array Value) (hh : W.heap[b]? = some (.cells cur 29 (0, 0))) (hc : cur.toList = (x.code.map InsL.row).flatten) (hb : B ≤ b) (hn : b ∉ ms.foot) : MethsB B (ms ++ [(x, .slice (some ⟨b, 0, none⟩) x.code.length c, [b])]) W := by
  have e : Meths.foot (ms ++ [(x, .slice (some ⟨b, 0, none⟩) x.code.length c, [b])]) = ms.foot ++ [b] := by simp [Meths.foot]
  refine ⟨fun m hm => ?_, ?_, ?_⟩
  · rcases List.mem_append.1 hm with hm | hm
    · exact h.1 m hm
    · simp only [List.mem_singleton] at hm
      subst hm
      exact insF_list x.code hh hc
  · rw [e, List.nodup_append]
    exact ⟨h.2.1, by simp, fun a ha b' hb' e2 => by simp only [List.mem_singleton] at hb'; subst e2; subst hb'; exact hn ha⟩
  · rw [e]
    intro d hd
    rcases List.mem_append.1 hd with hd | hd
    · exact h.2.2 d hd
    · simp only [List.mem_singleton] at hd; omega
/-- A class without fields: its methods' block is there. -/
theorem classOwn_at {w W : World} {ms : Meths} (hM : MethsB w.heap.size ms W) (M : Array Value) (p : Nat) (hp : W.heap[p]? = some (.cells M 36 (0, 0))) (bp : w.heap.size ≤ p) (n s : ByteArray) (f : Int) (hc : M.toList = (ms.map fun m => m.1.row m.2.1).flatten) (c : Nat) (row : List Value) (hrow : row = [.string n, .string s, nilV, .int .i64 f, nilV, nilV, .slice (some ⟨p, 0, none⟩) ms.length c]) :
    ClassOwn w W row ⟨n, s, f, [], ms.map (·.1)⟩ := by
  have hn : p ∉ ms.foot := fun hm => by
    obtain ⟨G, hG, hbG⟩ := List.mem_flatten.1 hm
    obtain ⟨m, hm', rfl⟩ := List.mem_map.1 hG
    rcases hM.1 m hm' with ⟨_, _, h3⟩ | ⟨b, c', Fs, cur, hv, h3, hl, hh, _⟩
    · rw [h3] at hbG; cases hbG
    · have hF : ∀ d ∈ m.2.2, ∃ cur t, W.heap[d]? = some (.cells cur t (0, 0)) ∧ t = 29 := fun d hd => by
        have := (hM.1 m hm').other (by decide) (fun row x G hG => by rw [hG.2]; intro b hb; cases hb) d hd
        rcases hM.1 m hm' with ⟨_, _, h4⟩ | ⟨b', c'', Fs', cur'', hv', h4, hl', hh', hs', hc'⟩
        · rw [h4] at hd; cases hd
        · rw [h4] at hd
          rcases List.mem_cons.1 hd with rfl | hd
          · exact ⟨_, _, hh', rfl⟩
          · obtain ⟨G', hG', hdG⟩ := List.mem_flatten.1 hd
            obtain ⟨j, hj, rfl⟩ := List.getElem_of_mem hG'
            obtain ⟨row', q1, q2, q3⟩ := hc' j (by omega)
            rw [List.getElem?_eq_getElem hj] at q3
            have := q3.2
            simp only [Option.getD_some] at this
            rw [this] at hdG; cases hdG
      obtain ⟨cur1, t1, e1, e2⟩ := hF p hbG
      rw [hp] at e1
      injection e1 with e1
      injection e1 with _ e3 _
      rw [e2] at e3
      exact absurd e3 (by decide)
  refine ⟨[] ++ p :: ms.foot, ⟨nilV, _, [], _, hrow, .inl ⟨rfl, rfl, rfl⟩, methF_list ms hp hc hM.1, rfl⟩, ?_, ?_⟩
  · simp only [List.nil_append, List.nodup_cons]
    exact ⟨hn, hM.2.1⟩
  · intro b hb
    simp only [List.nil_append, List.mem_cons] at hb
    rcases hb with rfl | hb
    · exact bp
    · exact hM.2.2 b hb
theorem err_own {w W : World} {n s : ByteArray} (hsz : w.heap.size + 1 ≤ W.heap.size) (C M : Array Value) (hC : C.toList = (List.map InsL.row [loadI 0, loadI 1, callI s sigS, retI]).flatten) (hM : M.toList = (wriM newS sigS 2 2 [loadI 0, loadI 1, callI s sigS, retI]).row (.slice (some ⟨W.heap.size, 0, none⟩) 4 4)) :
    ClassOwn w (((W.alloc (.cells C 29)).alloc (.cells M 36)).setCells w.heap.size 0 [.string n, .string s, .slice none 0 0, .int .i64 0, .slice none 0 0, .slice none 0 0, .slice (some ⟨W.heap.size + 1, 0, none⟩) 1 1]) [.string n, .string s, .slice none 0 0, .int .i64 0, .slice none 0 0, .slice none 0 0, .slice (some ⟨W.heap.size + 1, 0, none⟩) 1 1] (errC n s) := by
  have k1 := (heap_setCells w.heap.size [.string n, .string s, .slice none 0 0, .int .i64 0, .slice none 0 0, .slice none 0 0, .slice (some ⟨W.heap.size + 1, 0, none⟩) 1 1] 0 ((W.alloc (.cells C 29)).alloc (.cells M 36)) (W.heap.size + 1) (by omega)).trans (blk_second _ _)
  have k2 := (heap_setCells w.heap.size [.string n, .string s, .slice none 0 0, .int .i64 0, .slice none 0 0, .slice none 0 0, .slice (some ⟨W.heap.size + 1, 0, none⟩) 1 1] 0 ((W.alloc (.cells C 29)).alloc (.cells M 36)) W.heap.size (by omega)).trans (blk_alloc _ (heap_alloc_new W _))
  exact classOwn_at ((MethsB.nil w.heap.size _).written (wriM newS sigS 2 2 [loadI 0, loadI 1, callI s sigS, retI]) W.heap.size 4 C k2 hC (by omega) (List.not_mem_nil)) M _ k1 (by omega) n s 0 (by rw [hM]; simp; rfl) 1 _ rfl
set_option maxRecDepth 1000000 in
set_option maxHeartbeats 8000000 in
theorem l2Error_calls (n s : ByteArray) (w : World) : Calls Tryd.prog 13 #[.string n, .string s] w fun e w' => (∃ p, e = .returned (.agg #[.string n, .string s, .slice none 0 0, .int .i64 0, .slice none 0 0, .slice none 0 0, .slice (some ⟨p, 0, none⟩) 1 1]) ∧ ClassOwn w w' [.string n, .string s, .slice none 0 0, .int .i64 0, .slice none 0 0, .slice none 0 0, .slice (some ⟨p, 0, none⟩) 1 1] (errC n s)) ∧ Below w.heap.size w w' := by
  have hinf : Hid ((Tryd.prog.info? 42).map (·.size) = some 7) := by show (Tryd.prog.info? 42).map (·.size) = some 7; kernel_rfl
  go_enter Tryd.func13, Tryd.ntmps13
  go_wp2_with fail
  refine (l2Load_calls 4 0 _).mono ?_
  rintro e w1 ⟨rfl, hb1⟩
  have r1 : Hid (Own7 w w1) := (Own7.start w _ _ _ _ _ _ _ _).call hb1
  clear hb1
  go_wp2_with fail
  refine (l2Load_calls 4 1 _).mono ?_
  rintro e w2 ⟨rfl, hb2⟩
  have r2 : Hid (Own7 w w2) := r1.out.call hb2
  clear hb2 r1
  go_wp2_with fail
  refine (l2Call_calls _ _ _ _ _).mono ?_
  rintro e w3 ⟨rfl, hb3⟩
  have r3 : Hid (Own7 w w3) := r2.out.call hb3
  clear hb3 r2
  go_wp2_with fail
  refine (l2Return_calls _).mono ?_
  rintro e w4 ⟨rfl, hb4⟩
  have r4 : Hid (Own7 w w4) := r3.out.call hb4
  clear hb4 r3
  have h6 : Hid (∀ A B, Own7 w ((w4.alloc A).alloc B)) := fun A B => r4.out.call (below_2 _ _ _)
  go_wp2_with (refine wpList_store_mid rfl 42 _ _ rfl w.heap.size 0 #[.string n, .string s, .slice none 0 0, .int .i64 0, .slice none 0 0, .slice none 0 0, .slice (some ⟨w4.heap.size + 1, 0, none⟩) 1 1] rfl (by first | rfl | (simp; done)) (h6.out _ _).th hinf.out (OneCells.all (row := [.string n, .string s, .slice none 0 0, .int .i64 0, .slice none 0 0, .slice none 0 0, .slice (some ⟨w4.heap.size + 1, 0, none⟩) 1 1]) rfl) ?_)
  refine bodyPost_ret (v := .agg #[.string n, .string s, .slice none 0 0, .int .i64 0, .slice none 0 0, .slice none 0 0, .slice (some ⟨w4.heap.size + 1, 0, none⟩) 1 1]) (results_cell_mid rfl _ _ w.heap.size [.string n, .string s, .slice none 0 0, .int .i64 0, .slice none 0 0, .slice none 0 0, .slice (some ⟨w4.heap.size + 1, 0, none⟩) 1 1] _ rfl (World.rangeAt_setCells_same _ _ _ _ (h6.out _ _).th) Tryd.underlying42 rfl hinf.out) rfl ⟨⟨_, rfl, ?_⟩, below_setCells _ (Nat.le_refl _) _ _ _ (h6.out _ _).hb⟩
  exact err_own r4.out.sz _ _ rfl rfl

end Go.Proofs.YtnoffenkmcmpfaaDoor
