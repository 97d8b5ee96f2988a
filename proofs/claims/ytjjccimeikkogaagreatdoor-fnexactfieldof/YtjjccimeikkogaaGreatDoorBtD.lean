import Derived.Test.YtjjccimeikkogaaGreatDoorBtC
namespace Go.Proofs.YtjjccimeikkogaaGreatDoor.Bt
set_option linter.unusedVariables false
open Go.ChangeShapes Go.WideShapes Go.ChangeAt Go.RowKit
def msgRow : List Value := [.string ⟨#[109, 101, 115, 115, 97, 103, 101]⟩, .string ⟨#[64, 83, 116, 114, 105, 110, 103]⟩, .int .i64 0]
def putRow : List Value := [.int .i64 32, .int .i64 0, .int .i64 0, .int .i64 0, .string ⟨#[]⟩, .string ⟨#[84, 104, 114, 111, 119, 97, 98, 108, 101]⟩, .string ⟨#[109, 101, 115, 115, 97, 103, 101]⟩, .string ⟨#[64, 83, 116, 114, 105, 110, 103]⟩, .slice none 0 0]
def zeroRow : List Value := [.string ⟨#[]⟩, .string ⟨#[]⟩, .slice none 0 0, .int .i64 0, .slice none 0 0, .slice none 0 0, .slice none 0 0]
structure Thr (w W : World) : Prop where
 o : Own7 w W
 sz : w.heap.size + 3 ≤ W.heap.size
 f : W.rangeAt (w.heap.size + 1) 0 msgRow
 p : W.rangeAt (w.heap.size + 2) 0 putRow
theorem Thr.call {w W W' : World} (h : Thr w W) (hb : Below W.heap.size W W') : Thr w W' := ⟨h.o.call hb, Nat.le_trans h.sz hb.size, rangeAt_kept hb (by have := h.sz; omega) h.f, rangeAt_kept hb (by have := h.sz; omega) h.p⟩
theorem Thr.drew {w W : World} (h : Thr w W) : Thr w W.drew := h.call (Below.refl _ _).drew
theorem heap_mid {w : World} (a b c : Obj) : (((w.alloc a).alloc b).alloc c).heap[w.heap.size + 1]? = some b := by
 rw [Below.heap_alloc _ _ _ (by simp)]
 have := heap_alloc_new (w.alloc a) b
 simpa using this
theorem heap_end {w : World} (a b c : Obj) : (((w.alloc a).alloc b).alloc c).heap[w.heap.size + 2]? = some c := by
 have := heap_alloc_new ((w.alloc a).alloc b) c
 simpa using this
theorem heap_beg {w : World} (a b c : Obj) : (((w.alloc a).alloc b).alloc c).heap[w.heap.size]? = some a := by
 rw [Below.heap_alloc _ _ _ (by simp; omega), Below.heap_alloc _ _ _ (by simp)]
 exact heap_alloc_new w a
theorem Thr.start (w : World) : Thr w (((w.alloc (.cells zeroRow.toArray 49)).alloc (.cells msgRow.toArray 36)).alloc (.cells putRow.toArray 110)) :=
 ⟨⟨below_on (below_2 _ _ _) (below_1 _ _), by simp, there_heap (heap_beg _ _ _)⟩, by simp, rangeAt_heap (heap_mid _ _ _), rangeAt_heap (heap_end _ _ _)⟩
theorem Thr.set {w W : World} (h : Thr w W) (i : Nat) (v : Value) : Thr w (W.setCell ⟨w.heap.size, i, none⟩ v) := by
 refine ⟨⟨h.o.hb.setCell (p := ⟨w.heap.size, i, none⟩) (Nat.le_refl _) v, by simpa [World.setCell] using h.o.sz, World.there_setCells h.o.th w.heap.size i [v]⟩, by simpa [World.setCell] using h.sz, ?_, ?_⟩
 ·exact World.rangeAt_setCells_apart h.f w.heap.size i [v] (.inl (by omega))
 ·exact World.rangeAt_setCells_apart h.p w.heap.size i [v] (.inl (by omega))
theorem Own7.open7 {w W : World} (h : Own7 w W) : ∃ x0 x1 x2 x3 x4 x5 x6 : Value, (∀ A, (W.alloc A).cell? ⟨w.heap.size, 0, none⟩ = some x0) ∧ (∀ A, (W.alloc A).cell? ⟨w.heap.size, 1, none⟩ = some x1) ∧ (∀ A, (W.alloc A).cell? ⟨w.heap.size, 2, none⟩ = some x2) ∧ (∀ A, (W.alloc A).cell? ⟨w.heap.size, 3, none⟩ = some x3) ∧ (∀ A, (W.alloc A).cell? ⟨w.heap.size, 4, none⟩ = some x4) ∧ (∀ A, (W.alloc A).cell? ⟨w.heap.size, 5, none⟩ = some x5) ∧ (∀ A, (W.alloc A).cell? ⟨w.heap.size, 6, none⟩ = some x6) ∧ (∀ A, (W.alloc A).frozen? ⟨w.heap.size, 0, none⟩ = false) ∧ (∀ A, (W.alloc A).frozen? ⟨w.heap.size, 1, none⟩ = false) ∧ (∀ A, (W.alloc A).frozen? ⟨w.heap.size, 2, none⟩ = false) ∧ (∀ A, (W.alloc A).frozen? ⟨w.heap.size, 3, none⟩ = false) ∧ (∀ A, (W.alloc A).frozen? ⟨w.heap.size, 4, none⟩ = false) ∧ (∀ A, (W.alloc A).frozen? ⟨w.heap.size, 5, none⟩ = false) ∧ (∀ A, (W.alloc A).frozen? ⟨w.heap.size, 6, none⟩ = false) ∧ (∀ A B, ((W.alloc A).alloc B).cell? ⟨w.heap.size, 0, none⟩ = some x0) ∧ (∀ A B, ((W.alloc A).alloc B).cell? ⟨w.heap.size, 1, none⟩ = some x1) ∧ (∀ A B, ((W.alloc A).alloc B).cell? ⟨w.heap.size, 2, none⟩ = some x2) ∧ (∀ A B, ((W.alloc A).alloc B).cell? ⟨w.heap.size, 3, none⟩ = some x3) ∧ (∀ A B, ((W.alloc A).alloc B).cell? ⟨w.heap.size, 4, none⟩ = some x4) ∧ (∀ A B, ((W.alloc A).alloc B).cell? ⟨w.heap.size, 5, none⟩ = some x5) ∧ (∀ A B, ((W.alloc A).alloc B).cell? ⟨w.heap.size, 6, none⟩ = some x6) ∧ (∀ A B, ((W.alloc A).alloc B).frozen? ⟨w.heap.size, 0, none⟩ = false) ∧ (∀ A B, ((W.alloc A).alloc B).frozen? ⟨w.heap.size, 1, none⟩ = false) ∧ (∀ A B, ((W.alloc A).alloc B).frozen? ⟨w.heap.size, 2, none⟩ = false) ∧ (∀ A B, ((W.alloc A).alloc B).frozen? ⟨w.heap.size, 3, none⟩ = false) ∧ (∀ A B, ((W.alloc A).alloc B).frozen? ⟨w.heap.size, 4, none⟩ = false) ∧ (∀ A B, ((W.alloc A).alloc B).frozen? ⟨w.heap.size, 5, none⟩ = false) ∧ (∀ A B, ((W.alloc A).alloc B).frozen? ⟨w.heap.size, 6, none⟩ = false) := by
 have hlt : w.heap.size < W.heap.size := h.sz
 have hc : ∀ i, i < 7 → ∃ x, ∀ W', Below W.heap.size W W' → W'.cell? ⟨w.heap.size, i, none⟩ = some x := fun i hi => by
  obtain ⟨x, hx⟩ := Option.isSome_iff_exists.1 (h.th i hi).1
  exact ⟨x, fun W' hb => by rw [hb.cell (p := ⟨w.heap.size, i, none⟩) hlt]; simpa using hx⟩
 have hf : ∀ i, i < 7 → ∀ W', Below W.heap.size W W' → W'.frozen? ⟨w.heap.size, i, none⟩ = false := fun i hi W' hb => by
  rw [hb.frozen (p := ⟨w.heap.size, i, none⟩) hlt]; simpa using (h.th i hi).2
 obtain ⟨x0, h0⟩ := hc 0 (by decide)
 obtain ⟨x1, h1⟩ := hc 1 (by decide)
 obtain ⟨x2, h2⟩ := hc 2 (by decide)
 obtain ⟨x3, h3⟩ := hc 3 (by decide)
 obtain ⟨x4, h4⟩ := hc 4 (by decide)
 obtain ⟨x5, h5⟩ := hc 5 (by decide)
 obtain ⟨x6, h6⟩ := hc 6 (by decide)
 exact ⟨x0, x1, x2, x3, x4, x5, x6, fun A => h0 _ (below_1 _ _), fun A => h1 _ (below_1 _ _), fun A => h2 _ (below_1 _ _), fun A => h3 _ (below_1 _ _), fun A => h4 _ (below_1 _ _), fun A => h5 _ (below_1 _ _), fun A => h6 _ (below_1 _ _), fun A => hf 0 (by decide) _ (below_1 _ _), fun A => hf 1 (by decide) _ (below_1 _ _), fun A => hf 2 (by decide) _ (below_1 _ _), fun A => hf 3 (by decide) _ (below_1 _ _), fun A => hf 4 (by decide) _ (below_1 _ _), fun A => hf 5 (by decide) _ (below_1 _ _), fun A => hf 6 (by decide) _ (below_1 _ _), fun A B => h0 _ (below_2 _ _ _), fun A B => h1 _ (below_2 _ _ _), fun A B => h2 _ (below_2 _ _ _), fun A B => h3 _ (below_2 _ _ _), fun A B => h4 _ (below_2 _ _ _), fun A B => h5 _ (below_2 _ _ _), fun A B => h6 _ (below_2 _ _ _), fun A B => hf 0 (by decide) _ (below_2 _ _ _), fun A B => hf 1 (by decide) _ (below_2 _ _ _), fun A B => hf 2 (by decide) _ (below_2 _ _ _), fun A B => hf 3 (by decide) _ (below_2 _ _ _), fun A B => hf 4 (by decide) _ (below_2 _ _ _), fun A B => hf 5 (by decide) _ (below_2 _ _ _), fun A B => hf 6 (by decide) _ (below_2 _ _ _)⟩
theorem blk_alloc {W : World} {q : Nat} {o : Obj} (A : Obj) (h : W.heap[q]? = some o) : (W.alloc A).heap[q]? = some o := (Below.heap_alloc _ _ _ (heap_lt h)).trans h
theorem blk_call {W W' : World} {q : Nat} {o : Obj} (h : W.heap[q]? = some o) (hb : Below W.heap.size W W') : W'.heap[q]? = some o := (hb.block _ (heap_lt h)).trans h
theorem blk_drew {W : World} {q : Nat} {o : Obj} (h : W.heap[q]? = some o) : W.drew.heap[q]? = some o := h
theorem blk_second {W : World} (A B : Obj) : ((W.alloc A).alloc B).heap[W.heap.size + 1]? = some B := by
 have := heap_alloc_new (W.alloc A) B
 simpa using this
theorem bnd1 {a n : Nat} (h : Hid (a + 3 ≤ n)) : a + 1 ≤ n := by have := h.out; omega
theorem bnd2 {a n : Nat} (h : Hid (a + 3 ≤ n)) : a + 1 ≤ n + 1 := by have := h.out; omega
def thrRow (p q : Nat) : List Value := [.string ⟨#[84, 104, 114, 111, 119, 97, 98, 108, 101]⟩, .string ⟨#[79, 98, 106, 101, 99, 116]⟩, .slice none 0 0, .int .i64 0, .slice none 0 0, .slice (some ⟨q, 0, none⟩) 1 1, .slice (some ⟨p, 0, none⟩) 1 1]
def thrC : ClassL := ⟨⟨#[84, 104, 114, 111, 119, 97, 98, 108, 101]⟩, ⟨#[79, 98, 106, 101, 99, 116]⟩, 0, [⟨⟨#[109, 101, 115, 115, 97, 103, 101]⟩, ⟨#[64, 83, 116, 114, 105, 110, 103]⟩, 0⟩], [wriM newS sigS 2 2 [loadI 0, callI objS sigV, loadI 0, loadI 1, putI, retI]]⟩
def Fin7 (w W : World) (p q : Nat) : Prop := W.rangeAt w.heap.size 0 (thrRow p q) ∧ ClassOwn w W (thrRow p q) thrC ∧ Below w.heap.size w W
theorem thr_ret {w W : World} {p q c : Nat} {C : Array Value} (hT : Thr w W) (hq : W.heap[q]? = some (.cells #[.string ⟨#[109, 101, 115, 115, 97, 103, 101]⟩, .string ⟨#[64, 83, 116, 114, 105, 110, 103]⟩, .int .i64 0] 36 (0, 0))) (hp : W.heap[p]? = some (.cells #[.string ⟨#[110, 101, 119]⟩, .string ⟨#[40, 64, 83, 116, 114, 105, 110, 103, 41, 86]⟩, .int .i64 0, .int .i64 2, .int .i64 2, .slice (some ⟨c, 0, none⟩) 6 6, .slice none 0 0, .slice none 0 0, .slice none 0 0] 91 (0, 0)))
  (hc : W.heap[c]? = some (.cells C 110 (0, 0))) (hC : C.toList = (List.map InsL.row [loadI 0, callI objS sigV, loadI 0, loadI 1, putI, retI]).flatten) (bq : w.heap.size + 1 ≤ q) (bp : w.heap.size + 1 ≤ p) (bc : w.heap.size + 1 ≤ c) : Fin7 w (((((((W.setCell ⟨w.heap.size, 0, none⟩ (.string ⟨#[84, 104, 114, 111, 119, 97, 98, 108, 101]⟩)).setCell ⟨w.heap.size, 1, none⟩ (.string ⟨#[79, 98, 106, 101, 99, 116]⟩)).setCell ⟨w.heap.size, 2, none⟩ (.slice none 0 0)).setCell ⟨w.heap.size, 3, none⟩ (.int .i64 0)).setCell ⟨w.heap.size, 4, none⟩ (.slice none 0 0)).setCell ⟨w.heap.size, 5, none⟩ (.slice (some ⟨q, 0, none⟩) 1 1)).setCell ⟨w.heap.size, 6, none⟩ (.slice (some ⟨p, 0, none⟩) 1 1)) p q := by
 have e : (((((((W.setCell ⟨w.heap.size, 0, none⟩ (.string ⟨#[84, 104, 114, 111, 119, 97, 98, 108, 101]⟩)).setCell ⟨w.heap.size, 1, none⟩ (.string ⟨#[79, 98, 106, 101, 99, 116]⟩)).setCell ⟨w.heap.size, 2, none⟩ (.slice none 0 0)).setCell ⟨w.heap.size, 3, none⟩ (.int .i64 0)).setCell ⟨w.heap.size, 4, none⟩ (.slice none 0 0)).setCell ⟨w.heap.size, 5, none⟩ (.slice (some ⟨q, 0, none⟩) 1 1)).setCell ⟨w.heap.size, 6, none⟩ (.slice (some ⟨p, 0, none⟩) 1 1)) = W.setCells w.heap.size 0 (thrRow p q) := rfl
 rw [e]
 refine ⟨World.rangeAt_setCells_same _ _ _ _ hT.o.th, ?_, below_setCells _ (Nat.le_refl _) _ _ _ hT.o.hb⟩
 have kq : (W.setCells w.heap.size 0 (thrRow p q)).heap[q]? = some (.cells #[.string ⟨#[109, 101, 115, 115, 97, 103, 101]⟩, .string ⟨#[64, 83, 116, 114, 105, 110, 103]⟩, .int .i64 0] 36 (0, 0)) := by rw [heap_setCells _ _ _ _ _ (by omega)]; exact hq
 have kp : (W.setCells w.heap.size 0 (thrRow p q)).heap[p]? = some (.cells #[.string ⟨#[110, 101, 119]⟩, .string ⟨#[40, 64, 83, 116, 114, 105, 110, 103, 41, 86]⟩, .int .i64 0, .int .i64 2, .int .i64 2, .slice (some ⟨c, 0, none⟩) 6 6, .slice none 0 0, .slice none 0 0, .slice none 0 0] 91 (0, 0)) := by rw [heap_setCells _ _ _ _ _ (by omega)]; exact hp
 have kc : (W.setCells w.heap.size 0 (thrRow p q)).heap[c]? = some (.cells C 110 (0, 0)) := by rw [heap_setCells _ _ _ _ _ (by omega)]; exact hc
 have h1 := fieldF_list (c := 1) [⟨⟨#[109, 101, 115, 115, 97, 103, 101]⟩, ⟨#[64, 83, 116, 114, 105, 110, 103]⟩, 0⟩] kq rfl
 have h2 := insF_list (c := 6) [loadI 0, callI objS sigV, loadI 0, loadI 1, putI, retI] kc hC
 have h3 := methF_list (c := 1) [(wriM newS sigS 2 2 [loadI 0, callI objS sigV, loadI 0, loadI 1, putI, retI], .slice (some ⟨c, 0, none⟩) 6 6, [c])] kp rfl (fun m hm => by
  simp only [List.mem_singleton] at hm
  subst hm
  exact h2)
 have n1 : q ≠ p := fun e => by subst e; rw [hq] at hp; injection hp with hp; injection hp with _ h _; exact absurd h (by decide)
 have n2 : q ≠ c := fun e => by subst e; rw [hq] at hc; injection hc with hc; injection hc with _ h _; exact absurd h (by decide)
 have n3 : p ≠ c := fun e => by subst e; rw [hp] at hc; injection hc with hc; injection hc with _ h _; exact absurd h (by decide)
 refine ⟨[q] ++ (p :: [c]), ⟨_, _, [q], p :: [c], rfl, h1, h3, rfl⟩, by simp [n1, n2, n3], fun b hb => ?_⟩
 simp only [List.cons_append, List.nil_append, List.mem_cons, List.not_mem_nil, or_false] at hb
 rcases hb with rfl | rfl | rfl <;> omega
theorem fin7_range {w W : World} {p q : Nat} (h : Fin7 w W p q) : W.rangeAt w.heap.size 0 (thrRow p q) := h.1
theorem fin7_post {w W : World} {p q : Nat} (h : Fin7 w W p q) : (∃ p' q', Ending.returned (.agg (thrRow p q).toArray) = .returned (.agg #[.string ⟨#[84, 104, 114, 111, 119, 97, 98, 108, 101]⟩, .string ⟨#[79, 98, 106, 101, 99, 116]⟩, .slice none 0 0, .int .i64 0, .slice none 0 0, .slice (some ⟨q', 0, none⟩) 1 1, .slice (some ⟨p', 0, none⟩) 1 1]) ∧ ClassOwn w W [.string ⟨#[84, 104, 114, 111, 119, 97, 98, 108, 101]⟩, .string ⟨#[79, 98, 106, 101, 99, 116]⟩, .slice none 0 0, .int .i64 0, .slice none 0 0, .slice (some ⟨q', 0, none⟩) 1 1, .slice (some ⟨p', 0, none⟩) 1 1] ⟨⟨#[84, 104, 114, 111, 119, 97, 98, 108, 101]⟩, ⟨#[79, 98, 106, 101, 99, 116]⟩, 0, [⟨⟨#[109, 101, 115, 115, 97, 103, 101]⟩, ⟨#[64, 83, 116, 114, 105, 110, 103]⟩, 0⟩], [wriM newS sigS 2 2 [loadI 0, callI objS sigV, loadI 0, loadI 1, putI, retI]]⟩) ∧ Below w.heap.size w W := ⟨⟨p, q, rfl, h.2.1⟩, h.2.2⟩
set_option maxRecDepth 1000000 in
set_option maxHeartbeats 8000000 in
theorem bootThrowable_calls (w : World) : Calls Tryz.prog 121 #[] w fun e w' => (∃ p q, e = .returned (.agg #[.string ⟨#[84, 104, 114, 111, 119, 97, 98, 108, 101]⟩, .string ⟨#[79, 98, 106, 101, 99, 116]⟩, .slice none 0 0, .int .i64 0, .slice none 0 0, .slice (some ⟨q, 0, none⟩) 1 1, .slice (some ⟨p, 0, none⟩) 1 1]) ∧ ClassOwn w w' [.string ⟨#[84, 104, 114, 111, 119, 97, 98, 108, 101]⟩, .string ⟨#[79, 98, 106, 101, 99, 116]⟩, .slice none 0 0, .int .i64 0, .slice none 0 0, .slice (some ⟨q, 0, none⟩) 1 1, .slice (some ⟨p, 0, none⟩) 1 1] ⟨⟨#[84, 104, 114, 111, 119, 97, 98, 108, 101]⟩, ⟨#[79, 98, 106, 101, 99, 116]⟩, 0, [⟨⟨#[109, 101, 115, 115, 97, 103, 101]⟩, ⟨#[64, 83, 116, 114, 105, 110, 103]⟩, 0⟩], [wriM newS sigS 2 2 [loadI 0, callI objS sigV, loadI 0, loadI 1, putI, retI]]⟩) ∧ Below w.heap.size w w' := by
 have hinf : Hid ((Tryz.prog.info? 49).map (·.size) = some 7) := by show (Tryz.prog.info? 49).map (·.size) = some 7; kernel_rfl
 go_enter Tryz.func121, Tryz.ntmps121
 go_upto_region 3 with fail
 have t0 : Thr w (((w.alloc (.cells #[.string ⟨#[]⟩, .string ⟨#[]⟩, .slice none 0 0, .int .i64 0, .slice none 0 0, .slice none 0 0, .slice none 0 0] 49)).alloc (.cells msgRow.toArray 36)).alloc (.cells putRow.toArray 110)) := Thr.start w
 obtain ⟨wd, hwd⟩ : ∃ W : World, W = (((w.alloc (.cells #[.string ⟨#[]⟩, .string ⟨#[]⟩, .slice none 0 0, .int .i64 0, .slice none 0 0, .slice none 0 0, .slice none 0 0] 49)).alloc (.cells msgRow.toArray 36)).alloc (.cells putRow.toArray 110)) := ⟨_, rfl⟩
 rw [← hwd] at t0
 simp only [msgRow, putRow] at hwd
 rw [← hwd]
 clear hwd
 have hmk : Hid (∀ W, Thr w W → (Hid (Thr w W) ∧ W.cell? ⟨w.heap.size + 1, 0, none⟩ = some (.string ⟨#[109, 101, 115, 115, 97, 103, 101]⟩) ∧ W.cell? ⟨w.heap.size + 1, 1, none⟩ = some (.string ⟨#[64, 83, 116, 114, 105, 110, 103]⟩) ∧ W.cell? ⟨w.heap.size + 1, 2, none⟩ = some (.int .i64 0) ∧ W.cell? ⟨w.heap.size + 2, 0, none⟩ = some (.int .i64 32) ∧ W.cell? ⟨w.heap.size + 2, 1, none⟩ = some (.int .i64 0) ∧ W.cell? ⟨w.heap.size + 2, 2, none⟩ = some (.int .i64 0) ∧ W.cell? ⟨w.heap.size + 2, 3, none⟩ = some (.int .i64 0) ∧ W.cell? ⟨w.heap.size + 2, 4, none⟩ = some (.string ⟨#[]⟩) ∧ W.cell? ⟨w.heap.size + 2, 5, none⟩ = some (.string ⟨#[84, 104, 114, 111, 119, 97, 98, 108, 101]⟩) ∧ W.cell? ⟨w.heap.size + 2, 6, none⟩ = some (.string ⟨#[109, 101, 115, 115, 97, 103, 101]⟩) ∧ W.cell? ⟨w.heap.size + 2, 7, none⟩ = some (.string ⟨#[64, 83, 116, 114, 105, 110, 103]⟩) ∧ W.cell? ⟨w.heap.size + 2, 8, none⟩ = some (.slice none 0 0))) := fun W hW => by
  have k0 := hW.f
  have k1 := hW.p
  simp only [World.rangeAt, Nat.zero_add] at k0 k1
  exact ⟨hW, k0 0 _ rfl, k0 1 _ rfl, k0 2 _ rfl, k1 0 _ rfl, k1 1 _ rfl, k1 2 _ rfl, k1 3 _ rfl, k1 4 _ rfl, k1 5 _ rfl, k1 6 _ rfl, k1 7 _ rfl, k1 8 _ rfl⟩
 have hS0 := hmk.out wd t0
 have hT : Hid (Thr w wd) := t0
 have hkd : Hid (w.heap.size + 3 ≤ wd.heap.size) := t0.sz
 clear t0
 go_region_held3 (fun W => Hid (Thr w W) ∧ W.cell? ⟨w.heap.size + 1, 0, none⟩ = some (.string ⟨#[109, 101, 115, 115, 97, 103, 101]⟩) ∧ W.cell? ⟨w.heap.size + 1, 1, none⟩ = some (.string ⟨#[64, 83, 116, 114, 105, 110, 103]⟩) ∧ W.cell? ⟨w.heap.size + 1, 2, none⟩ = some (.int .i64 0) ∧ W.cell? ⟨w.heap.size + 2, 0, none⟩ = some (.int .i64 32) ∧ W.cell? ⟨w.heap.size + 2, 1, none⟩ = some (.int .i64 0) ∧ W.cell? ⟨w.heap.size + 2, 2, none⟩ = some (.int .i64 0) ∧ W.cell? ⟨w.heap.size + 2, 3, none⟩ = some (.int .i64 0) ∧ W.cell? ⟨w.heap.size + 2, 4, none⟩ = some (.string ⟨#[]⟩) ∧ W.cell? ⟨w.heap.size + 2, 5, none⟩ = some (.string ⟨#[84, 104, 114, 111, 119, 97, 98, 108, 101]⟩) ∧ W.cell? ⟨w.heap.size + 2, 6, none⟩ = some (.string ⟨#[109, 101, 115, 115, 97, 103, 101]⟩) ∧ W.cell? ⟨w.heap.size + 2, 7, none⟩ = some (.string ⟨#[64, 83, 116, 114, 105, 110, 103]⟩) ∧ W.cell? ⟨w.heap.size + 2, 8, none⟩ = some (.slice none 0 0)) (first | (with_reducible_and_instances refine hmk.out (World.setCell _ _ _) ?_; (repeat (with_reducible refine Thr.set ?_ _ _)); first | with_reducible_and_instances exact Thr.call hT.out (below_1 _ _) | with_reducible_and_instances exact Thr.call hT.out (below_2 _ _ _)) | (with_reducible_and_instances refine hmk.out (World.alloc _ _) ?_; first | with_reducible_and_instances exact Thr.call hT.out (below_1 _ _) | with_reducible_and_instances exact Thr.call hT.out (below_2 _ _ _)) | (with_reducible_and_instances refine hmk.out (World.drew _) ?_; with_reducible refine Thr.drew ?_; first | with_reducible_and_instances exact hT.out | with_reducible_and_instances exact Thr.call hT.out (below_1 _ _) | with_reducible_and_instances exact Thr.call hT.out (below_2 _ _ _)) | with_reducible_and_instances exact hmk.out _ hT.out) (first
  | (go_at_call 161; refine (loadRef_calls _ _).mono ?_; rintro e wq ⟨rfl, hbq⟩; (have hT1 : Thr w wq := by first | with_reducible_and_instances exact Thr.call hT.out hbq | with_reducible_and_instances exact Thr.call (Thr.call hT.out (below_1 _ _)) hbq | with_reducible_and_instances exact Thr.call (Thr.call hT.out (below_2 _ _ _)) hbq | with_reducible_and_instances exact Thr.call (Thr.drew hT.out) hbq | with_reducible_and_instances exact Thr.call (Thr.drew (Thr.call hT.out (below_1 _ _))) hbq); have hk : Hid (w.heap.size + 3 ≤ wq.heap.size) := Thr.sz hT1; have hT : Hid (Thr w wq) := hT1; clear hT1)
  | (go_at_call 162; refine (callNew_calls _ _ _).mono ?_; rintro e wq ⟨rfl, hbq⟩; (have hT1 : Thr w wq := by first | with_reducible_and_instances exact Thr.call hT.out hbq | with_reducible_and_instances exact Thr.call (Thr.call hT.out (below_1 _ _)) hbq | with_reducible_and_instances exact Thr.call (Thr.call hT.out (below_2 _ _ _)) hbq | with_reducible_and_instances exact Thr.call (Thr.drew hT.out) hbq | with_reducible_and_instances exact Thr.call (Thr.drew (Thr.call hT.out (below_1 _ _))) hbq); have hk : Hid (w.heap.size + 3 ≤ wq.heap.size) := Thr.sz hT1; have hT : Hid (Thr w wq) := hT1; clear hT1)
  | (go_at_call 159; refine (written_calls _ _ _ _ _ _ _ _).mono ?_; rintro e wq ⟨rfl, hbq⟩; (have hT1 : Thr w wq := by first | with_reducible_and_instances exact Thr.call hT.out hbq | with_reducible_and_instances exact Thr.call (Thr.call hT.out (below_1 _ _)) hbq | with_reducible_and_instances exact Thr.call (Thr.call hT.out (below_2 _ _ _)) hbq | with_reducible_and_instances exact Thr.call (Thr.drew hT.out) hbq | with_reducible_and_instances exact Thr.call (Thr.drew (Thr.call hT.out (below_1 _ _))) hbq); have hk : Hid (w.heap.size + 3 ≤ wq.heap.size) := Thr.sz hT1; have hT : Hid (Thr w wq) := hT1; clear hT1; obtain ⟨x0, x1, x2, x3, x4, x5, x6, y0, y1, y2, y3, y4, y5, y6, z0, z1, z2, z3, z4, z5, z6, u0, u1, u2, u3, u4, u5, u6, v0, v1, v2, v3, v4, v5, v6⟩ := Own7.open7 (Thr.o hT.out)))
 all_goals (
  go_wp2
  refine' bodyPost_ret (results_cell_mid rfl _ _ w.heap.size (thrRow _ _) _ rfl (fin7_range (thr_ret _ _ _ _ _ _ _ _)) Tryz.underlying49 rfl hinf.out) rfl (fin7_post (thr_ret _ _ _ _ _ _ _ _))
  any_goals (first | with_reducible_and_instances exact Thr.call hT.out (below_1 _ _) | with_reducible_and_instances exact Thr.call hT.out (below_2 _ _ _) | ((repeat (first | with_reducible_and_instances refine blk_drew ?_ | with_reducible_and_instances exact heap_alloc_new _ _ | with_reducible_and_instances exact blk_second _ _ | with_reducible_and_instances refine blk_alloc _ ?_ | with_reducible_and_instances refine blk_call ?_ (by assumption))); done))
  any_goals (first | with_reducible_and_instances exact bnd1 (by assumption) | with_reducible_and_instances exact bnd2 (by assumption))
  all_goals rfl)
end Go.Proofs.YtjjccimeikkogaaGreatDoor.Bt
/- Lists of classes as they grow. -/
namespace Go.Proofs.YtjjccimeikkogaaGreatDoor.Bt
set_option linter.unusedVariables false
open Go.ChangeShapes Go.WideShapes Go.ChangeAt Go.RowKit
def Other (W : World) (F : List Nat) : Prop := ∀ b ∈ F, ∃ cur t, W.heap[b]? = some (.cells cur t (0, 0)) ∧ t ≠ 49
theorem Other.eqOn {W W' : World} {F : List Nat} (h : Other W F) (he : EqOn F W W') : Other W' F := fun b hb => by
 obtain ⟨cur, t, h1, h2⟩ := h b hb
 exact ⟨cur, t, (he b hb).trans h1, h2⟩
theorem ListF.other {α : Type} {R : RdF α} {k : Nat} {t : TypeId} {w : World} {v : Value} {xs : List α} {F : List Nat} (h : ListF R k t w v xs F) (ht : t ≠ 49) (hR : ∀ row x G, R w row x G → Other w G) : Other w F := by
 rcases h with ⟨_, _, rfl⟩ | ⟨b, c, Fs, cur, hv, rfl, hl, hh, hs, hc⟩
 ·intro b hb; cases hb
 ·intro d hd
  rcases List.mem_cons.1 hd with rfl | hd
  ·exact ⟨cur, t, hh, ht⟩
  ·obtain ⟨G, hG, hdG⟩ := List.mem_flatten.1 hd
   obtain ⟨j, hj, rfl⟩ := List.getElem_of_mem hG
   obtain ⟨row, h1, h2, h3⟩ := hc j (by omega)
   exact hR _ _ _ h3 d (by rw [List.getElem?_eq_getElem hj]; exact hdG)
theorem ClassF.other {w : World} {row : List Value} {x : ClassL} {F : List Nat} (h : ClassF w row x F) : Other w F := by
 obtain ⟨s, t, F1, F2, h1, h2, h3, rfl⟩ := h
 have o1 : Other w F1 := h2.other (by decide) (fun row x G hG => by rw [hG.2]; intro b hb; cases hb)
 have o2 : Other w F2 := h3.other (by decide) (fun row x G hG => by
  obtain ⟨c, _, hc⟩ := hG
  exact hc.other (by decide) (fun row x G hG => by rw [hG.2]; intro b hb; cases hb))
 intro b hb
 rcases List.mem_append.1 hb with hb | hb
 ·exact o1 b hb
 ·exact o2 b hb
abbrev Clss := List (ClassL × List Value × List Nat)
def Clss.foot (cs : Clss) : List Nat := List.flatten (cs.map (·.2.2))
structure ClsIn (w : World) (cs : Clss) (W : World) : Prop where
 all : ∀ m ∈ cs, ClassF W m.2.1 m.1 m.2.2 ∧ m.2.1.length = 7
 nd : cs.foot.Nodup
 ge : ∀ b ∈ cs.foot, w.heap.size ≤ b
theorem ClsIn.lt {w W : World} {cs : Clss} (h : ClsIn w cs W) : ∀ b ∈ cs.foot, b < W.heap.size := fun b hb => by
 obtain ⟨G, hG, hbG⟩ := List.mem_flatten.1 hb
 obtain ⟨m, hm, rfl⟩ := List.mem_map.1 hG
 exact ClassF.good.lt (h.all m hm).1 b hbG
theorem ClsIn.other {w W : World} {cs : Clss} (h : ClsIn w cs W) : Other W cs.foot := fun b hb => by
 obtain ⟨G, hG, hbG⟩ := List.mem_flatten.1 hb
 obtain ⟨m, hm, rfl⟩ := List.mem_map.1 hG
 exact ClassF.other (h.all m hm).1 b hbG
theorem ClsIn.eqOn {w W W' : World} {cs : Clss} (h : ClsIn w cs W) (he : EqOn cs.foot W W') : ClsIn w cs W' := ⟨fun m hm => ⟨ClassF.good.stab (h.all m hm).1 fun b hb => he b (List.mem_flatten.2 ⟨m.2.2, List.mem_map.2 ⟨m, hm, rfl⟩, hb⟩), (h.all m hm).2⟩, h.nd, h.ge⟩
theorem ClsIn.call {w W W' : World} {cs : Clss} (h : ClsIn w cs W) (hb : Below W.heap.size W W') : ClsIn w cs W' := h.eqOn (EqOn.below hb h.lt)
theorem ClsIn.nil (w W : World) : ClsIn w [] W := ⟨fun m hm => (List.not_mem_nil hm).elim, List.nodup_nil, fun b hb => (List.not_mem_nil hb).elim⟩
theorem ClsIn.add {w W W' : World} {cs : Clss} (h : ClsIn w cs W) (hb : Below W.heap.size W W') (hw : w.heap.size ≤ W.heap.size) {row : List Value} {x : ClassL} (hl : row.length = 7) (ho : ClassOwn W W' row x) : ∃ F, ClsIn w (cs ++ [(x, row, F)]) W' := by
 obtain ⟨F, h1, h2, h3⟩ := ho
 have e : Clss.foot (cs ++ [(x, row, F)]) = cs.foot ++ F := by simp [Clss.foot]
 refine ⟨F, fun m hm => ?_, ?_, ?_⟩
 ·rcases List.mem_append.1 hm with hm | hm
  ·exact (h.call hb).all m hm
  ·simp only [List.mem_singleton] at hm
   subst hm
   exact ⟨h1, hl⟩
 ·rw [e, List.nodup_append]
  exact ⟨h.nd, h2, fun a ha b' hb' e2 => by subst e2; have := h.lt a ha; have := h3 a hb'; omega⟩
 ·rw [e]
  intro b hb'
  rcases List.mem_append.1 hb' with hb' | hb'
  ·exact h.ge b hb'
  ·have := h3 b hb'; omega
theorem ClsIn.grown {w W W' : World} {cs : Clss} (h : ClsIn w cs W) {base n : Nat} {v : Value} {xs : List Value} (ho : W.ownsRow base 49 7 v n xs) (hg : W.grownBy W' v.ownBlock) : ClsIn w cs W' := h.eqOn fun b hb => by
 obtain ⟨cur, t, h1, h2⟩ := h.other b hb
 refine hg.block b (heap_lt h1) fun e => ?_
 obtain ⟨_, ⟨rfl, _⟩ | ⟨g, cap, cur', rfl, _, hgg, _⟩⟩ := ho
 ·cases e
 ·have : b = g := by simpa [Value.ownBlock] using e
  subst this
  rw [h1] at hgg
  injection hgg with hgg
  injection hgg with _ h3 _
  exact h2 h3
theorem ClsIn.list {w W : World} {cs : Clss} (h : ClsIn w cs W) {v : Value} {n : Nat} (ho : W.ownsRow w.heap.size 49 7 v n ((cs.map (·.2.1)).flatten)) (hn : n = cs.length) (h0 : 0 < cs.length) : ∃ F, ListF ClassF 7 49 W v (cs.map (·.1)) F ∧ F.Nodup ∧ ∀ b ∈ F, w.heap.size ≤ b := by
 obtain ⟨hlen, ⟨_, rfl⟩ | ⟨g, cap, cur, rfl, hbg, hg, hnc, hcm, hcs, htake⟩⟩ := ho
 ·omega
 ·refine ⟨g :: cs.foot, ?_, ?_, ?_⟩
  ·have hl := listF_rows (R := ClassF) (k := 7) (t := 49) (c := cap) (xs := cs.map (·.1)) (rows := cs.map (·.2.1)) (Fs := cs.map (·.2.2)) (rest := cur.toList.drop (n * 7)) hg (by rw [← htake]; exact (List.take_append_drop _ _).symm) (fun r hr => by
    obtain ⟨m, hm, rfl⟩ := List.mem_map.1 hr
    exact (h.all m hm).2) (by simp) (by simp) (fun j hj => by
    have hj' : j < cs.length := by simpa using hj
    have := (h.all cs[j] (List.getElem_mem hj')).1
    simpa [hj'] using this)
   rw [List.length_map, ← hn] at hl
   exact hl
  ·simp only [List.nodup_cons]
   refine ⟨fun hm => ?_, h.nd⟩
   obtain ⟨cur', t, h1, h2⟩ := h.other g hm
   rw [hg] at h1
   injection h1 with h1
   injection h1 with _ h3 _
   exact h2 h3.symm
  ·intro b hb
   rcases List.mem_cons.1 hb with rfl | hb
   ·exact hbg
   ·exact h.ge b hb
end Go.Proofs.YtjjccimeikkogaaGreatDoor.Bt
