import Derived.Test.YtjjccimeikkogaaGreatDoorBtG
namespace Go.Proofs.YtjjccimeikkogaaGreatDoor.Bt
set_option linter.unusedVariables false
open Go.ChangeShapes Go.WideShapes Go.ChangeAt Go.RowKit
theorem thr_own {w W : World} {p q c : Nat} {C : Array Value} (hq : W.heap[q]? = some (.cells #[.string ⟨#[109, 101, 115, 115, 97, 103, 101]⟩, .string ⟨#[64, 83, 116, 114, 105, 110, 103]⟩, .int .i64 0] 36 (0, 0))) (hp : W.heap[p]? = some (.cells #[.string ⟨#[110, 101, 119]⟩, .string ⟨#[40, 64, 83, 116, 114, 105, 110, 103, 41, 86]⟩, .int .i64 0, .int .i64 2, .int .i64 2, .slice (some ⟨c, 0, none⟩) 6 6, .slice none 0 0, .slice none 0 0, .slice none 0 0] 91 (0, 0)))
  (hc : W.heap[c]? = some (.cells C 110 (0, 0))) (hC : C.toList = (List.map InsL.row [loadI 0, callI objS sigV, loadI 0, loadI 1, putI, retI]).flatten) (bq : w.heap.size ≤ q) (bp : w.heap.size ≤ p) (bc : w.heap.size ≤ c) : ClassOwn w W (thrRow p q) thrC := by
 have h1 := fieldF_list (c := 1) [⟨⟨#[109, 101, 115, 115, 97, 103, 101]⟩, ⟨#[64, 83, 116, 114, 105, 110, 103]⟩, 0⟩] hq rfl
 have h2 := insF_list (c := 6) [loadI 0, callI objS sigV, loadI 0, loadI 1, putI, retI] hc hC
 have h3 := methF_list (c := 1) [(wriM newS sigS 2 2 [loadI 0, callI objS sigV, loadI 0, loadI 1, putI, retI], .slice (some ⟨c, 0, none⟩) 6 6, [c])] hp rfl (fun m hm => by
  simp only [List.mem_singleton] at hm
  subst hm
  exact h2)
 have n1 : q ≠ p := fun e => by subst e; rw [hq] at hp; injection hp with hp; injection hp with _ h _; exact absurd h (by decide)
 have n2 : q ≠ c := fun e => by subst e; rw [hq] at hc; injection hc with hc; injection hc with _ h _; exact absurd h (by decide)
 have n3 : p ≠ c := fun e => by subst e; rw [hp] at hc; injection hc with hc; injection hc with _ h _; exact absurd h (by decide)
 refine ⟨[q] ++ (p :: [c]), ⟨_, _, [q], p :: [c], rfl, h1, h3, rfl⟩, by simp [n1, n2, n3], fun b hb => ?_⟩
 simp only [List.cons_append, List.nil_append, List.mem_cons, List.not_mem_nil, or_false] at hb
 rcases hb with rfl | rfl | rfl <;> omega
theorem blk_third {W : World} (A B C : Obj) : (((W.alloc A).alloc B).alloc C).heap[W.heap.size + 1 + 1]? = some C := by
 have := heap_alloc_new ((W.alloc A).alloc B) C
 simpa using this
theorem blk_fourth {W : World} (A B C D : Obj) : ((((W.alloc A).alloc B).alloc C).alloc D).heap[W.heap.size + 1 + 1 + 1]? = some D := by
 have := heap_alloc_new (((W.alloc A).alloc B).alloc C) D
 simpa using this
theorem below_4 (w : World) (a b c d : Obj) : Below w.heap.size w ((((w.alloc a).alloc b).alloc c).alloc d) := below_on (below_2 _ _ _) (below_2 _ _ _)
theorem other_blk {W W' : World} {base n q : Nat} {v : Value} {xs : List Value} {arr : Array Value} {t : TypeId} (ho : W.ownsRow base 49 7 v n xs) (hne : t ≠ 49) (hq : W.heap[q]? = some (.cells arr t (0, 0))) (hg : W.grownBy W' v.ownBlock) : W'.heap[q]? = some (.cells arr t (0, 0)) := by
 refine (hg.block q (heap_lt hq) fun h => ?_).trans hq
 obtain ⟨_, ⟨rfl, _⟩ | ⟨g, cap, cur, rfl, _, hgg, _⟩⟩ := ho
 ·cases h
 ·have : q = g := by simpa [Value.ownBlock] using h
  subst this
  rw [hq] at hgg
  injection hgg with hgg
  injection hgg with _ h2 _
  exact hne h2
theorem append_keeps {P : Program} {w w' : World} {base : Nat} {t ty e : TypeId} {i : TypeInfo} {z : Value} {size bytes : Nat} (ht : P.underlying t = some (.slice e)) (hi : P.info? e = some i) (hz : i.zero = some z)
  (hsize : i.size = size) (hby : i.bytes = bytes) {v v' : Value} {n : Nat} {xs : List Value} (hown : w.ownsRow base e size v n xs) {a : Addr} {m c : Nat} {news : List Value} (hl : news.length = m * size)
  (hnews : ∀ j u, news[j]? = some u → w.cell? (a.add j) = some u) (h1 : ∀ u ∈ news, u.oneCell' = true) (h63 : n + m ≤ maxLen) (hbytes : (n + m) * bytes ≤ 140737488355328)
  (hr : (Builtin.append_ #[t, t] ty #[v, .slice (some a) m c]).run P w = .ok v' w') : w'.ownsRow base e size v n xs := by
 subst hsize hby
 have h64 : n + m ≤ 9223372036854775807 := by unfold maxLen at h63; omega
 obtain ⟨hlen, h | ⟨g, cap, cur, rfl, hbg, hg, hnc, hcm, hcs, htake⟩⟩ := hown
 ·obtain ⟨rfl, rfl⟩ := h
  have : xs = [] := List.eq_nil_of_length_eq_zero (by simpa using hlen)
  subst this
  exact World.ownsRow_nil _ _ _ _
 ·by_cases hroom : n + m ≤ cap
  ·have hfit : n * i.size + news.length ≤ cur.size := by rw [hl, hcs, ← Nat.add_mul]; exact Nat.mul_le_mul_right _ hroom
   rw [run_append_room (P := P) w t ty e i ht hi g n cap cur hg a m c news hl hnews h1 hroom hfit] at hr
   injection hr with _ hw
   subst hw
   refine ⟨hlen, .inr ⟨g, cap, _, rfl, hbg, setRow_heap w g cur _ e _ hg, hnc, hcm, ?_, ?_⟩⟩
   ·have : cur.toList.length = cur.size := Array.length_toList
    simp only [List.size_toArray, List.length_append, List.length_take, List.length_drop, this]
    omega
   ·show ((cur.toList.take (n * i.size) ++ news ++ cur.toList.drop (n * i.size + news.length)).take (n * i.size)) = xs
    rw [htake, List.append_assoc, ← hlen]
    exact List.take_left
  ·have holds : ∀ j u, xs[j]? = some u → w.cell? ((⟨g, 0, none⟩ : Addr).add j) = some u := World.ownsRow.cells (base := base) (e := e) (size := i.size) (v := .slice (some ⟨g, 0, none⟩) n cap) (n := n) ⟨hlen, .inr ⟨g, cap, cur, rfl, hbg, hg, hnc, hcm, hcs, htake⟩⟩ rfl
   rw [run_append_grow (P := P) w t ty e i z ht hi hz ⟨g, 0, none⟩ n cap xs hlen holds a m c news hl hnews (by omega) (by omega) (growslice_fits (by omega) hbytes)] at hr
   injection hr with _ hw
   subst hw
   refine ⟨hlen, .inr ⟨g, cap, cur, rfl, hbg, ?_, hnc, hcm, hcs, htake⟩⟩
   exact (Below.heap_alloc w.drew _ g (Array.getElem?_eq_some_iff.1 hg).1).trans hg
theorem wp_append_keep {P : Program} (w : World) {o : Oper} {a : Act} {K : Act → World → Prop} {Q : Exit → Act → World → Prop} (s x : Operand) (t : TypeId)
  (ho : o.op = .call { callee := .builtin .append, args := #[s, x], argTypes := #[t, t] })
  (base : Nat) (e : TypeId) (i : TypeInfo) (z : Value) (size bytes : Nat) (ht : P.underlying t = some (.slice e)) (hi : P.info? e = some i) (hz : i.zero = some z)
  (hsize : i.size = size) (hby : i.bytes = bytes) (hzs : z.cells.size = size) (hsz : 0 < size) (v : Value) (n : Nat) (xs : List Value) (hs : a.eval s = v) (hown : w.ownsRow base e size v n xs)
  (ad : Addr) (m c : Nat) (news : List Value) (hx : a.eval x = .slice (some ad) m c) (hl : news.length = m * size) (hnews : ∀ j u, news[j]? = some u → w.cell? (ad.add j) = some u) (h1 : ∀ u ∈ news, u.oneCell' = true)
  (h63 : n + m ≤ maxLen) (hbytes : (n + m) * bytes ≤ 140737488355328) (hbase : base ≤ w.heap.size)
  (h : ∀ v' w', w'.ownsRow base e size v' (n + m) (xs ++ news) → w.grownBy w' v.ownBlock → w'.ownsRow base e size v n xs → K (a.put o.dst v') w') : o.wp P a w K Q := by
 obtain ⟨v', w', hr, h2, h3, -⟩ := run_append_own (P := P) w base t o.type e i z size bytes ht hi hz hsize hby hzs hsz v n xs hown ad m c news hl hnews h1 h63 hbytes hbase
 have h4 := append_keeps ht hi hz hsize hby hown hl hnews h1 h63 hbytes hr
 unfold Oper.wp execOp
 simp only [ho, resolve, invoke, builtin, Sem.run_bind, Sem.run_pure, Result.andThen_ok, List.map_toArray, List.map_cons, List.map_nil, hs, hx, hr]
 exact h v' w' h2 h3 h4
structure RegT (w : World) (u : Value) (rs : List Value) (c1 p8 c2 p9 : Nat) (C1 V8 C2 V9 : Array Value) (W : World) : Prop where
 hb : Below w.heap.size w W
 k1 : W.heap[c1]? = some (.cells C1 110 (0, 0))
 k8 : W.heap[p8]? = some (.cells V8 91 (0, 0))
 k2 : W.heap[c2]? = some (.cells C2 110 (0, 0))
 k9 : W.heap[p9]? = some (.cells V9 91 (0, 0))
 ho : W.ownsRow w.heap.size 49 7 u 14 rs
theorem RegT.call {w : World} {u : Value} {rs : List Value} {c1 p8 c2 p9 : Nat} {C1 V8 C2 V9 : Array Value} {W W' : World} (h : RegT w u rs c1 p8 c2 p9 C1 V8 C2 V9 W) (hb : Below W.heap.size W W') : RegT w u rs c1 p8 c2 p9 C1 V8 C2 V9 W' :=
 ⟨below_on h.hb hb, blk_call h.k1 hb, blk_call h.k8 hb, blk_call h.k2 hb, blk_call h.k9 hb, h.ho.kept (grown_below hb) (Classical.em _)⟩
theorem RegT.drew {w : World} {u : Value} {rs : List Value} {c1 p8 c2 p9 : Nat} {C1 V8 C2 V9 : Array Value} {W : World} (h : RegT w u rs c1 p8 c2 p9 C1 V8 C2 V9 W) : RegT w u rs c1 p8 c2 p9 C1 V8 C2 V9 W.drew := ⟨h.hb.drew, h.k1, h.k8, h.k2, h.k9, h.ho⟩
theorem RegT.append {w : World} {u : Value} {rs : List Value} {c1 p8 c2 p9 : Nat} {C1 V8 C2 V9 : Array Value} {W W' : World} (h : RegT w u rs c1 p8 c2 p9 C1 V8 C2 V9 W) (hg : W.grownBy W' u.ownBlock) (hk : W'.ownsRow w.heap.size 49 7 u 14 rs) : RegT w u rs c1 p8 c2 p9 C1 V8 C2 V9 W' :=
 ⟨h.hb.grown hg h.hb.size (fun k hk => (h.ho.lt k hk).1), other_blk h.ho (by decide) h.k1 hg, other_blk h.ho (by decide) h.k8 hg, other_blk h.ho (by decide) h.k2 hg, other_blk h.ho (by decide) h.k9 hg, hk⟩
theorem onesT (b : Nat) : ∀ u ∈ ([.string ⟨#[84, 104, 114, 101, 97, 100]⟩, .string ⟨#[79, 98, 106, 101, 99, 116]⟩, .slice none 0 0, .int .i64 0, .slice none 0 0, .slice none 0 0, .slice (some ⟨b, 0, none⟩) 6 6] : List Value), u.oneCell' = true := fun u hu => List.all_eq_true.1 (show List.all [.string ⟨#[84, 104, 114, 101, 97, 100]⟩, .string ⟨#[79, 98, 106, 101, 99, 116]⟩, .slice none 0 0, .int .i64 0, .slice none 0 0, .slice none 0 0, .slice (some ⟨b, 0, none⟩) 6 6] (·.oneCell') = true from rfl) u hu
theorem onesY (b : Nat) : ∀ u ∈ ([.string ⟨#[83, 121, 115, 116, 101, 109]⟩, .string ⟨#[79, 98, 106, 101, 99, 116]⟩, .slice none 0 0, .int .i64 2, .slice none 0 0, .slice none 0 0, .slice (some ⟨b, 0, none⟩) 4 4] : List Value), u.oneCell' = true := fun u hu => List.all_eq_true.1 (show List.all [.string ⟨#[83, 121, 115, 116, 101, 109]⟩, .string ⟨#[79, 98, 106, 101, 99, 116]⟩, .slice none 0 0, .int .i64 2, .slice none 0 0, .slice none 0 0, .slice (some ⟨b, 0, none⟩) 4 4] (·.oneCell') = true from rfl) u hu
theorem ClsIn.join {w W : World} {cs : Clss} (h : ClsIn w cs W) (B : World) (hB : ∀ b ∈ cs.foot, b < B.heap.size) (hw : w.heap.size ≤ B.heap.size) {row : List Value} {x : ClassL} (hl : row.length = 7) (ho : ClassOwn B W row x) : ∃ F, ClsIn w (cs ++ [(x, row, F)]) W := by
 obtain ⟨F, h1, h2, h3⟩ := ho
 have e : Clss.foot (cs ++ [(x, row, F)]) = cs.foot ++ F := by simp [Clss.foot]
 refine ⟨F, fun m hm => ?_, ?_, ?_⟩
 ·rcases List.mem_append.1 hm with hm | hm
  ·exact h.all m hm
  ·simp only [List.mem_singleton] at hm
   subst hm
   exact ⟨h1, hl⟩
 ·rw [e, List.nodup_append]
  exact ⟨h.nd, h2, fun a ha b' hb' e2 => by subst e2; have := hB a ha; have := h3 a hb'; omega⟩
 ·rw [e]
  intro b hb'
  rcases List.mem_append.1 hb' with hb' | hb'
  ·exact h.ge b hb'
  ·have := h3 b hb'; omega
theorem thread_in {w wr wq w' : World} {u : Value} {cs : Clss} {x3 x4 : Nat} {C1 V8 C2 V9 M C : Array Value} {p8 p9 : Nat} (hN : Below wr.heap.size wr wq) (ho : wr.ownsRow w.heap.size 49 7 u 14 (rowsOf cs)) (hc : ClsIn w cs wr) (hs : wr.heap.size ≤ x3 ∧ wr.heap.size ≤ x4 ∧ x3 < x4)
  (hR : RegT w u (rowsOf cs) x3 p8 x4 p9 C1 V8 C2 V9 w') (hg : ((wq.alloc (.cells M 91)).alloc (.cells C 49)).grownBy w' u.ownBlock) (hw : w.heap.size ≤ wr.heap.size)
  (hC : (C1, C2, M) = (#[.int .i64 4, .int .i64 4, .int .i64 0, .int .i64 0, .string ⟨#[]⟩, .string ⟨#[]⟩, .string ⟨#[]⟩, .string ⟨#[]⟩, .slice none 0 0, .int .i64 33, .int .i64 0, .int .i64 0, .int .i64 3, .string ⟨#[]⟩, .string ⟨#[79, 98, 106, 101, 99, 116]⟩, .string ⟨#[110, 101, 119]⟩, .string ⟨#[40, 41, 86]⟩, .slice none 0 0, .int .i64 44, .int .i64 0, .int .i64 0, .int .i64 0, .string ⟨#[]⟩, .string ⟨#[]⟩, .string ⟨#[]⟩, .string ⟨#[]⟩, .slice none 0 0], #[.int .i64 44, .int .i64 0, .int .i64 0, .int .i64 0, .string ⟨#[]⟩, .string ⟨#[]⟩, .string ⟨#[]⟩, .string ⟨#[]⟩, .slice none 0 0], #[.string ⟨#[110, 101, 119]⟩, .string ⟨#[40, 41, 86]⟩, .int .i64 0, .int .i64 1, .int .i64 1, .slice (some ⟨x3, 0, none⟩) 3 3, .slice none 0 0, .slice none 0 0, .slice none 0 0, .string ⟨#[114, 117, 110]⟩, .string ⟨#[40, 41, 86]⟩, .int .i64 0, .int .i64 0, .int .i64 1, .slice (some ⟨x4, 0, none⟩) 1 1, .slice none 0 0, .slice none 0 0, .slice none 0 0, .string ⟨#[98, 101, 103, 105, 110]⟩, .string ⟨#[40, 41, 86]⟩, .int .i64 66, .int .i64 0, .int .i64 0, .slice none 0 0, .slice none 0 0, .slice none 0 0, .slice none 0 0, .string ⟨#[106, 111, 105, 110]⟩, .string ⟨#[40, 41, 86]⟩, .int .i64 66, .int .i64 0, .int .i64 0, .slice none 0 0, .slice none 0 0, .slice none 0 0, .slice none 0 0, .string ⟨#[115, 116, 111, 112]⟩, .string ⟨#[40, 41, 86]⟩, .int .i64 66, .int .i64 0, .int .i64 0, .slice none 0 0, .slice none 0 0, .slice none 0 0, .slice none 0 0, .string ⟨#[115, 116, 111, 112, 112, 101, 100]⟩, .string ⟨#[40, 41, 73]⟩, .int .i64 66, .int .i64 0, .int .i64 0, .slice none 0 0, .slice none 0 0, .slice none 0 0, .slice none 0 0])) : ∃ F, ClsIn w (cs ++ [(threadC, [.string ⟨#[84, 104, 114, 101, 97, 100]⟩, .string ⟨#[79, 98, 106, 101, 99, 116]⟩, .slice none 0 0, .int .i64 0, .slice none 0 0, .slice none 0 0, .slice (some ⟨wq.heap.size, 0, none⟩) 6 6], F)]) w' := by
 injection hC with e1 hC
 injection hC with e2 e3
 subst e1 e2 e3
 have hBZ := below_on hN (below_2 wq (.cells #[.string ⟨#[110, 101, 119]⟩, .string ⟨#[40, 41, 86]⟩, .int .i64 0, .int .i64 1, .int .i64 1, .slice (some ⟨x3, 0, none⟩) 3 3, .slice none 0 0, .slice none 0 0, .slice none 0 0, .string ⟨#[114, 117, 110]⟩, .string ⟨#[40, 41, 86]⟩, .int .i64 0, .int .i64 0, .int .i64 1, .slice (some ⟨x4, 0, none⟩) 1 1, .slice none 0 0, .slice none 0 0, .slice none 0 0, .string ⟨#[98, 101, 103, 105, 110]⟩, .string ⟨#[40, 41, 86]⟩, .int .i64 66, .int .i64 0, .int .i64 0, .slice none 0 0, .slice none 0 0, .slice none 0 0, .slice none 0 0, .string ⟨#[106, 111, 105, 110]⟩, .string ⟨#[40, 41, 86]⟩, .int .i64 66, .int .i64 0, .int .i64 0, .slice none 0 0, .slice none 0 0, .slice none 0 0, .slice none 0 0, .string ⟨#[115, 116, 111, 112]⟩, .string ⟨#[40, 41, 86]⟩, .int .i64 66, .int .i64 0, .int .i64 0, .slice none 0 0, .slice none 0 0, .slice none 0 0, .slice none 0 0, .string ⟨#[115, 116, 111, 112, 112, 101, 100]⟩, .string ⟨#[40, 41, 73]⟩, .int .i64 66, .int .i64 0, .int .i64 0, .slice none 0 0, .slice none 0 0, .slice none 0 0, .slice none 0 0] 91) (.cells C 49))
 have hoZ := ho.kept (grown_below hBZ) (Classical.em _)
 have hM := other_blk hoZ (by decide) (blk_alloc (.cells C 49) (heap_alloc_new wq (.cells #[.string ⟨#[110, 101, 119]⟩, .string ⟨#[40, 41, 86]⟩, .int .i64 0, .int .i64 1, .int .i64 1, .slice (some ⟨x3, 0, none⟩) 3 3, .slice none 0 0, .slice none 0 0, .slice none 0 0, .string ⟨#[114, 117, 110]⟩, .string ⟨#[40, 41, 86]⟩, .int .i64 0, .int .i64 0, .int .i64 1, .slice (some ⟨x4, 0, none⟩) 1 1, .slice none 0 0, .slice none 0 0, .slice none 0 0, .string ⟨#[98, 101, 103, 105, 110]⟩, .string ⟨#[40, 41, 86]⟩, .int .i64 66, .int .i64 0, .int .i64 0, .slice none 0 0, .slice none 0 0, .slice none 0 0, .slice none 0 0, .string ⟨#[106, 111, 105, 110]⟩, .string ⟨#[40, 41, 86]⟩, .int .i64 66, .int .i64 0, .int .i64 0, .slice none 0 0, .slice none 0 0, .slice none 0 0, .slice none 0 0, .string ⟨#[115, 116, 111, 112]⟩, .string ⟨#[40, 41, 86]⟩, .int .i64 66, .int .i64 0, .int .i64 0, .slice none 0 0, .slice none 0 0, .slice none 0 0, .slice none 0 0, .string ⟨#[115, 116, 111, 112, 112, 101, 100]⟩, .string ⟨#[40, 41, 73]⟩, .int .i64 66, .int .i64 0, .int .i64 0, .slice none 0 0, .slice none 0 0, .slice none 0 0, .slice none 0 0] 91))) hg
 have hMs : MethsB wr.heap.size _ w' := ((((((MethsB.nil wr.heap.size w').written (wriM newS sigV 1 1 [loadI 0, callI objS sigV, retI]) x3 3 _ hR.k1 rfl hs.1 (List.not_mem_nil)).written (wriM ⟨#[114, 117, 110]⟩ sigV 0 1 [retI]) x4 1 _ hR.k2 rfl hs.2.1 (by simp [Meths.foot]; omega)).native (natM ⟨#[98, 101, 103, 105, 110]⟩ ⟨#[40, 41, 86]⟩ 2) rfl).native (natM ⟨#[106, 111, 105, 110]⟩ ⟨#[40, 41, 86]⟩ 2) rfl).native (natM ⟨#[115, 116, 111, 112]⟩ ⟨#[40, 41, 86]⟩ 2) rfl).native (natM ⟨#[115, 116, 111, 112, 112, 101, 100]⟩ ⟨#[40, 41, 73]⟩ 2) rfl
 exact ((hc.call hBZ).grown hoZ hg).join wr hc.lt hw rfl (classOwn_at hMs _ wq.heap.size hM hN.size _ _ _ rfl _ _ rfl)
theorem sys_in {w wr wq w' : World} {u : Value} {cs : Clss} {M C : Array Value} (hN : Below wr.heap.size wr wq) (ho : wr.ownsRow w.heap.size 49 7 u 15 (rowsOf cs)) (hc : ClsIn w cs wr)
  (hg : ((wq.alloc (.cells M 91)).alloc (.cells C 49)).grownBy w' u.ownBlock) (hw : w.heap.size ≤ wr.heap.size) (hM' : M = #[.string ⟨#[112, 114, 105, 110, 116]⟩, .string ⟨#[40, 73, 41, 86]⟩, .int .i64 65, .int .i64 0, .int .i64 0, .slice none 0 0, .slice none 0 0, .slice none 0 0, .slice none 0 0, .string ⟨#[112, 114, 105, 110, 116]⟩, .string ⟨#[40, 74, 41, 86]⟩, .int .i64 65, .int .i64 0, .int .i64 0, .slice none 0 0, .slice none 0 0, .slice none 0 0, .slice none 0 0, .string ⟨#[112, 114, 105, 110, 116]⟩, .string ⟨#[40, 68, 41, 86]⟩, .int .i64 65, .int .i64 0, .int .i64 0, .slice none 0 0, .slice none 0 0, .slice none 0 0, .slice none 0 0, .string ⟨#[112, 114, 105, 110, 116]⟩, .string ⟨#[40, 64, 83, 116, 114, 105, 110, 103, 41, 86]⟩, .int .i64 65, .int .i64 0, .int .i64 0, .slice none 0 0, .slice none 0 0, .slice none 0 0, .slice none 0 0]) : ∃ F, ClsIn w (cs ++ [(sysC, [.string ⟨#[83, 121, 115, 116, 101, 109]⟩, .string ⟨#[79, 98, 106, 101, 99, 116]⟩, .slice none 0 0, .int .i64 2, .slice none 0 0, .slice none 0 0, .slice (some ⟨wq.heap.size, 0, none⟩) 4 4], F)]) w' := by
 subst hM'
 have hBZ := below_on hN (below_2 wq (.cells #[.string ⟨#[112, 114, 105, 110, 116]⟩, .string ⟨#[40, 73, 41, 86]⟩, .int .i64 65, .int .i64 0, .int .i64 0, .slice none 0 0, .slice none 0 0, .slice none 0 0, .slice none 0 0, .string ⟨#[112, 114, 105, 110, 116]⟩, .string ⟨#[40, 74, 41, 86]⟩, .int .i64 65, .int .i64 0, .int .i64 0, .slice none 0 0, .slice none 0 0, .slice none 0 0, .slice none 0 0, .string ⟨#[112, 114, 105, 110, 116]⟩, .string ⟨#[40, 68, 41, 86]⟩, .int .i64 65, .int .i64 0, .int .i64 0, .slice none 0 0, .slice none 0 0, .slice none 0 0, .slice none 0 0, .string ⟨#[112, 114, 105, 110, 116]⟩, .string ⟨#[40, 64, 83, 116, 114, 105, 110, 103, 41, 86]⟩, .int .i64 65, .int .i64 0, .int .i64 0, .slice none 0 0, .slice none 0 0, .slice none 0 0, .slice none 0 0] 91) (.cells C 49))
 have hoZ := ho.kept (grown_below hBZ) (Classical.em _)
 have hM := other_blk hoZ (by decide) (blk_alloc (.cells C 49) (heap_alloc_new wq (.cells #[.string ⟨#[112, 114, 105, 110, 116]⟩, .string ⟨#[40, 73, 41, 86]⟩, .int .i64 65, .int .i64 0, .int .i64 0, .slice none 0 0, .slice none 0 0, .slice none 0 0, .slice none 0 0, .string ⟨#[112, 114, 105, 110, 116]⟩, .string ⟨#[40, 74, 41, 86]⟩, .int .i64 65, .int .i64 0, .int .i64 0, .slice none 0 0, .slice none 0 0, .slice none 0 0, .slice none 0 0, .string ⟨#[112, 114, 105, 110, 116]⟩, .string ⟨#[40, 68, 41, 86]⟩, .int .i64 65, .int .i64 0, .int .i64 0, .slice none 0 0, .slice none 0 0, .slice none 0 0, .slice none 0 0, .string ⟨#[112, 114, 105, 110, 116]⟩, .string ⟨#[40, 64, 83, 116, 114, 105, 110, 103, 41, 86]⟩, .int .i64 65, .int .i64 0, .int .i64 0, .slice none 0 0, .slice none 0 0, .slice none 0 0, .slice none 0 0] 91))) hg
 have hMs : MethsB wr.heap.size _ w' := ((((MethsB.nil wr.heap.size w').native (natM ⟨#[112, 114, 105, 110, 116]⟩ ⟨#[40, 73, 41, 86]⟩ 1) rfl).native (natM ⟨#[112, 114, 105, 110, 116]⟩ ⟨#[40, 74, 41, 86]⟩ 1) rfl).native (natM ⟨#[112, 114, 105, 110, 116]⟩ ⟨#[40, 68, 41, 86]⟩ 1) rfl).native (natM ⟨#[112, 114, 105, 110, 116]⟩ ⟨#[40, 64, 83, 116, 114, 105, 110, 103, 41, 86]⟩ 1) rfl
 exact ((hc.call hBZ).grown hoZ hg).join wr hc.lt hw rfl (classOwn_at hMs _ wq.heap.size hM hN.size _ _ _ rfl _ _ rfl)
set_option maxRecDepth 1000000 in
set_option maxHeartbeats 16000000 in
theorem specBoot_calls (w : World) (he : BootEnv w) : Calls Tryz.prog 46 #[] w (BootQ w) := by
 obtain ⟨i0, hi0, hz0, hz1, hz2⟩ := info_parts info42
 clear he
 go_enter Tryz.func46, Tryz.ntmps46
 go_wp2_with fail
 refine (l2Return_calls _).mono ?_
 rintro e w1 ⟨rfl, hb1⟩
 have b1 : Hid (Below w.heap.size w w1) := hb1
 clear hb1
 go_wp2_with fail
 refine (l2Native_calls _ _ _ (by decide) (by decide) _).mono ?_
 rintro e w2 ⟨rfl, hb2⟩
 have q2 : Hid (MethsB w.heap.size _ w2) := MethsB.native (MethsB.written (MethsB.nil w.heap.size w2) (wriM newS sigV 0 1 [retI]) w1.heap.size 1 _ ((hb2.block _ (heap_lt (heap_alloc_new w1 _))).trans (heap_alloc_new w1 _)) rfl b1.out.size (List.not_mem_nil)) (natM ⟨#[119, 97, 105, 116]⟩ ⟨#[40, 41, 86]⟩ 2) rfl
 have b2 : Hid (Below w.heap.size w w2) := below_on (below_on b1.out (below_1 _ _)) hb2
 clear hb2 b1
 go_wp2_with fail
 refine (l2Native_calls _ _ _ (by decide) (by decide) _).mono ?_
 rintro e w3 ⟨rfl, hb3⟩
 have q3 : Hid (MethsB w.heap.size _ w3) := MethsB.native (q2.out.call hb3) (natM ⟨#[110, 111, 116, 105, 102, 121]⟩ ⟨#[40, 41, 86]⟩ 2) rfl
 have b3 : Hid (Below w.heap.size w w3) := below_on b2.out hb3
 clear hb3 q2 b2
 go_wp2_with fail
 refine (l2Native_calls _ _ _ (by decide) (by decide) _).mono ?_
 rintro e w4 ⟨rfl, hb4⟩
 have q4 : Hid (MethsB w.heap.size _ w4) := MethsB.native (q3.out.call hb4) (natM ⟨#[119, 97, 107, 101]⟩ ⟨#[40, 41, 86]⟩ 2) rfl
 have b4 : Hid (Below w.heap.size w w4) := below_on b3.out hb4
 clear hb4 q3 b3
 go_wp2_with fail
 refine (l2Native_calls _ _ _ (by decide) (by decide) _).mono ?_
 rintro e w5 ⟨rfl, hb5⟩
 have q5 : Hid (MethsB w.heap.size _ w5) := MethsB.native (q4.out.call hb5) (natM ⟨#[104, 97, 115, 104]⟩ ⟨#[40, 41, 73]⟩ 2) rfl
 have b5 : Hid (Below w.heap.size w w5) := below_on b4.out hb5
 clear hb5 q4 b4
 go_wp2_with fail
 refine (l2Native_calls _ _ _ (by decide) (by decide) _).mono ?_
 rintro e w6 ⟨rfl, hb6⟩
 have o6 : Hid (ClassOwn w w6 [.string ⟨#[79, 98, 106, 101, 99, 116]⟩, .string ⟨#[]⟩, .slice none 0 0, .int .i64 0, .slice none 0 0, .slice none 0 0, .slice (some ⟨w5.heap.size, 0, none⟩) 5 5] objC) := by
  refine ClassOwn.call (ClassOwn.call ?_ (below_1 _ _)) hb6
  exact classOwn_at (q5.out.call (below_1 _ _)) _ w5.heap.size (heap_alloc_new w5 _) b5.out.size _ _ _ rfl _ _ rfl
 have s6 : Hid (w5.heap.size + 1 < w6.heap.size) := by
  show _ < _
  have := hb6.size
  simp at this
  omega
 have v6 : Hid (w6.rangeAt (w5.heap.size + 1) 0 [.string ⟨#[79, 98, 106, 101, 99, 116]⟩, .string ⟨#[]⟩, .slice none 0 0, .int .i64 0, .slice none 0 0, .slice none 0 0, .slice (some ⟨w5.heap.size, 0, none⟩) 5 5]) := rangeAt_kept hb6 (by simp) (rangeAt_heap (blk_second _ _))
 have b6 : Hid (Below w.heap.size w w6) := below_on (below_on b5.out (below_2 _ _ _)) hb6
 obtain ⟨F1, c1⟩ := (ClsIn.nil w w).add b6.out (Nat.le_refl _) rfl o6.out
 have c1H : Hid (ClsIn w _ w6) := c1
 have q6 : Hid (MethsB w6.heap.size _ w6) := MethsB.native (MethsB.nil w6.heap.size w6) (natM ⟨#[108, 101, 110, 103, 116, 104]⟩ ⟨#[40, 41, 73]⟩ 0) rfl
 have d6 : Hid (Below w6.heap.size w6 w6) := Below.refl _ _
 clear hb6 o6 c1 q5 b5
 go_wp2_with fail
 refine (l2Native_calls _ _ _ (by decide) (by decide) _).mono ?_
 rintro e w7 ⟨rfl, hb7⟩
 have q7 : Hid (MethsB w6.heap.size _ w7) := MethsB.native (q6.out.call hb7) (natM ⟨#[97, 116]⟩ ⟨#[40, 73, 41, 73]⟩ 0) rfl
 have d7 : Hid (Below w6.heap.size w6 w7) := below_on d6.out hb7
 clear hb7 q6 d6
 go_wp2_with fail
 refine (l2Native_calls _ _ _ (by decide) (by decide) _).mono ?_
 rintro e w8 ⟨rfl, hb8⟩
 have q8 : Hid (MethsB w6.heap.size _ w8) := MethsB.native (q7.out.call hb8) (natM ⟨#[106, 111, 105, 110]⟩ ⟨#[40, 64, 83, 116, 114, 105, 110, 103, 41, 64, 83, 116, 114, 105, 110, 103]⟩ 0) rfl
 have d8 : Hid (Below w6.heap.size w6 w8) := below_on d7.out hb8
 clear hb8 q7 d7
 go_wp2_with fail
 refine (l2Native_calls _ _ _ (by decide) (by decide) _).mono ?_
 rintro e w9 ⟨rfl, hb9⟩
 have q9 : Hid (MethsB w6.heap.size _ w9) := MethsB.native (q8.out.call hb9) (natM ⟨#[115, 97, 109, 101]⟩ ⟨#[40, 64, 79, 98, 106, 101, 99, 116, 41, 73]⟩ 0) rfl
 have d9 : Hid (Below w6.heap.size w6 w9) := below_on d8.out hb9
 clear hb9 q8 d8
 go_wp2_with fail
 refine (l2Native_calls _ _ _ (by decide) (by decide) _).mono ?_
 rintro e w10 ⟨rfl, hb10⟩
 have q10 : Hid (MethsB w6.heap.size _ w10) := MethsB.native (q9.out.call hb10) (natM ⟨#[112, 97, 114, 116]⟩ ⟨#[40, 73, 44, 73, 41, 64, 83, 116, 114, 105, 110, 103]⟩ 0) rfl
 have d10 : Hid (Below w6.heap.size w6 w10) := below_on d9.out hb10
 clear hb10 q9 d9
 go_wp2_with fail
 refine (l2Load_calls _ _ _).mono ?_
 rintro e w11 ⟨rfl, hb11⟩
 have o11 : Hid (ClassOwn w6 w11 [.string ⟨#[83, 116, 114, 105, 110, 103]⟩, .string ⟨#[79, 98, 106, 101, 99, 116]⟩, .slice none 0 0, .int .i64 2, .slice none 0 0, .slice none 0 0, .slice (some ⟨w10.heap.size, 0, none⟩) 5 5] strC) := by
  refine ClassOwn.call (ClassOwn.call ?_ (below_1 _ _)) hb11
  exact classOwn_at (q10.out.call (below_1 _ _)) _ w10.heap.size (heap_alloc_new w10 _) d10.out.size _ _ _ rfl _ _ rfl
 have s11 : Hid (w10.heap.size + 1 < w11.heap.size) := by
  show _ < _
  have := hb11.size
  simp at this
  omega
 have v11 : Hid (w11.rangeAt (w10.heap.size + 1) 0 [.string ⟨#[83, 116, 114, 105, 110, 103]⟩, .string ⟨#[79, 98, 106, 101, 99, 116]⟩, .slice none 0 0, .int .i64 2, .slice none 0 0, .slice none 0 0, .slice (some ⟨w10.heap.size, 0, none⟩) 5 5]) := rangeAt_kept hb11 (by simp) (rangeAt_heap (blk_second _ _))
 have d11 : Hid (Below w6.heap.size w6 w11) := below_on (below_on d10.out (below_2 _ _ _)) hb11
 have v6' : Hid (w11.rangeAt (w5.heap.size + 1) 0 [.string ⟨#[79, 98, 106, 101, 99, 116]⟩, .string ⟨#[]⟩, .slice none 0 0, .int .i64 0, .slice none 0 0, .slice none 0 0, .slice (some ⟨w5.heap.size, 0, none⟩) 5 5]) := rangeAt_kept d11.out s6.out v6.out
 have b11 : Hid (Below w.heap.size w w11) := below_on b6.out d11.out
 have s6' : Hid (w5.heap.size + 1 < w11.heap.size) := Nat.lt_of_lt_of_le s6.out d11.out.size
 obtain ⟨F2, c2⟩ := c1H.out.add d11.out b6.out.size rfl o11.out
 have c2H : Hid (ClsIn w _ w11) := c2
 have d11' : Hid (Below w11.heap.size w11 w11) := Below.refl _ _
 clear hb11 o11 c2 q10 d10 v6 s6 b6 c1H d11
 go_wp2_with fail
 refine (l2Call_calls _ _ _ _ _).mono ?_
 rintro e w12 ⟨rfl, hb12⟩
 have d12 : Hid (Below w11.heap.size w11 w12) := below_on d11'.out hb12
 clear hb12 d11'
 go_wp2_with fail
 refine (l2Load_calls _ _ _).mono ?_
 rintro e w13 ⟨rfl, hb13⟩
 have d13 : Hid (Below w11.heap.size w11 w13) := below_on d12.out hb13
 clear hb13 d12
 go_wp2_with fail
 refine (l2Load_calls _ _ _).mono ?_
 rintro e w14 ⟨rfl, hb14⟩
 have d14 : Hid (Below w11.heap.size w11 w14) := below_on d13.out hb14
 clear hb14 d13
 go_wp2_with fail
 refine (l2Return_calls _).mono ?_
 rintro e w15 ⟨rfl, hb15⟩
 have d15 : Hid (Below w11.heap.size w11 w15) := below_on d14.out hb15
 clear hb15 d14
 go_upto_region 5 with fail
 obtain ⟨wd, hwd⟩ : ∃ W : World, W = ((((w15.alloc (.cells #[.int .i64 4, .int .i64 4, .int .i64 0, .int .i64 0, .string ⟨#[]⟩, .string ⟨#[]⟩, .string ⟨#[]⟩, .string ⟨#[]⟩, .slice none 0 0, .int .i64 33, .int .i64 0, .int .i64 0, .int .i64 3, .string ⟨#[]⟩, .string ⟨#[79, 98, 106, 101, 99, 116]⟩, .string ⟨#[110, 101, 119]⟩, .string ⟨#[40, 41, 86]⟩, .slice none 0 0, .int .i64 4, .int .i64 4, .int .i64 0, .int .i64 0, .string ⟨#[]⟩, .string ⟨#[]⟩, .string ⟨#[]⟩, .string ⟨#[]⟩, .slice none 0 0, .int .i64 4, .int .i64 4, .int .i64 1, .int .i64 0, .string ⟨#[]⟩, .string ⟨#[]⟩, .string ⟨#[]⟩, .string ⟨#[]⟩, .slice none 0 0, .int .i64 32, .int .i64 0, .int .i64 0, .int .i64 0, .string ⟨#[]⟩, .string ⟨#[84, 104, 114, 111, 119, 97, 98, 108, 101]⟩, .string ⟨#[109, 101, 115, 115, 97, 103, 101]⟩, .string ⟨#[64, 83, 116, 114, 105, 110, 103]⟩, .slice none 0 0, .int .i64 44, .int .i64 0, .int .i64 0, .int .i64 0, .string ⟨#[]⟩, .string ⟨#[]⟩, .string ⟨#[]⟩, .string ⟨#[]⟩, .slice none 0 0] 110)).alloc (.cells #[.string ⟨#[109, 101, 115, 115, 97, 103, 101]⟩, .string ⟨#[64, 83, 116, 114, 105, 110, 103]⟩, .int .i64 0] 36)).alloc (.cells #[.string ⟨#[110, 101, 119]⟩, .string ⟨#[40, 64, 83, 116, 114, 105, 110, 103, 41, 86]⟩, .int .i64 0, .int .i64 2, .int .i64 2, .slice (some ⟨w15.heap.size, 0, none⟩) 6 6, .slice none 0 0, .slice none 0 0, .slice none 0 0] 91)).alloc (.cells #[.string ⟨#[84, 104, 114, 111, 119, 97, 98, 108, 101]⟩, .string ⟨#[79, 98, 106, 101, 99, 116]⟩, .slice none 0 0, .int .i64 0, .slice none 0 0, .slice (some ⟨w15.heap.size + 1, 0, none⟩) 1 1, .slice (some ⟨w15.heap.size + 1 + 1, 0, none⟩) 1 1] 49)) := ⟨_, rfl⟩
 rw [← hwd]
 have hwB : Hid (Below w15.heap.size w15 wd) := by rw [hwd]; exact below_4 _ _ _ _ _
 have o16 : Hid (ClassOwn w11 wd [.string ⟨#[84, 104, 114, 111, 119, 97, 98, 108, 101]⟩, .string ⟨#[79, 98, 106, 101, 99, 116]⟩, .slice none 0 0, .int .i64 0, .slice none 0 0, .slice (some ⟨w15.heap.size + 1, 0, none⟩) 1 1, .slice (some ⟨w15.heap.size + 1 + 1, 0, none⟩) 1 1] thrC) := by
  rw [hwd]
  exact thr_own (p := w15.heap.size + 1 + 1) (q := w15.heap.size + 1) (c := w15.heap.size) (blk_alloc _ (blk_alloc _ (blk_second _ _))) (blk_alloc _ (blk_third _ _ _)) (blk_alloc _ (blk_alloc _ (blk_alloc _ (heap_alloc_new w15 _)))) rfl (by have := d15.out.size; omega) (by have := d15.out.size; omega) d15.out.size
 have v16 : Hid (wd.rangeAt (w15.heap.size + 1 + 1 + 1) 0 [.string ⟨#[84, 104, 114, 111, 119, 97, 98, 108, 101]⟩, .string ⟨#[79, 98, 106, 101, 99, 116]⟩, .slice none 0 0, .int .i64 0, .slice none 0 0, .slice (some ⟨w15.heap.size + 1, 0, none⟩) 1 1, .slice (some ⟨w15.heap.size + 1 + 1, 0, none⟩) 1 1] ∧ w15.heap.size + 1 + 1 + 1 < wd.heap.size) := by
  rw [hwd]
  exact ⟨rangeAt_heap (blk_fourth _ _ _ _), heap_lt (blk_fourth _ _ _ _)⟩
 have d16 : Hid (Below w11.heap.size w11 wd) := below_on d15.out hwB.out
 obtain ⟨F3, c3⟩ := c2H.out.add d16.out b11.out.size rfl o16.out
 have c3H : Hid (ClsIn w _ wd) := c3
 have b16 : Hid (Below w.heap.size w wd) := below_on b11.out d16.out
 have hmk : Hid (∀ W, Below wd.heap.size wd W → (Below wd.heap.size wd W ∧ W.cell? ⟨w5.heap.size + 1, 0, none⟩ = some (.string ⟨#[79, 98, 106, 101, 99, 116]⟩) ∧ W.cell? ⟨w5.heap.size + 1, 1, none⟩ = some (.string ⟨#[]⟩) ∧ W.cell? ⟨w5.heap.size + 1, 2, none⟩ = some (.slice none 0 0) ∧ W.cell? ⟨w5.heap.size + 1, 3, none⟩ = some (.int .i64 0) ∧ W.cell? ⟨w5.heap.size + 1, 4, none⟩ = some (.slice none 0 0) ∧ W.cell? ⟨w5.heap.size + 1, 5, none⟩ = some (.slice none 0 0) ∧ W.cell? ⟨w5.heap.size + 1, 6, none⟩ = some (.slice (some ⟨w5.heap.size, 0, none⟩) 5 5) ∧ W.cell? ⟨w10.heap.size + 1, 0, none⟩ = some (.string ⟨#[83, 116, 114, 105, 110, 103]⟩) ∧ W.cell? ⟨w10.heap.size + 1, 1, none⟩ = some (.string ⟨#[79, 98, 106, 101, 99, 116]⟩) ∧ W.cell? ⟨w10.heap.size + 1, 2, none⟩ = some (.slice none 0 0) ∧ W.cell? ⟨w10.heap.size + 1, 3, none⟩ = some (.int .i64 2) ∧ W.cell? ⟨w10.heap.size + 1, 4, none⟩ = some (.slice none 0 0) ∧ W.cell? ⟨w10.heap.size + 1, 5, none⟩ = some (.slice none 0 0) ∧ W.cell? ⟨w10.heap.size + 1, 6, none⟩ = some (.slice (some ⟨w10.heap.size, 0, none⟩) 5 5) ∧ W.cell? ⟨w15.heap.size + 1 + 1 + 1, 0, none⟩ = some (.string ⟨#[84, 104, 114, 111, 119, 97, 98, 108, 101]⟩) ∧ W.cell? ⟨w15.heap.size + 1 + 1 + 1, 1, none⟩ = some (.string ⟨#[79, 98, 106, 101, 99, 116]⟩) ∧ W.cell? ⟨w15.heap.size + 1 + 1 + 1, 2, none⟩ = some (.slice none 0 0) ∧ W.cell? ⟨w15.heap.size + 1 + 1 + 1, 3, none⟩ = some (.int .i64 0) ∧ W.cell? ⟨w15.heap.size + 1 + 1 + 1, 4, none⟩ = some (.slice none 0 0) ∧ W.cell? ⟨w15.heap.size + 1 + 1 + 1, 5, none⟩ = some (.slice (some ⟨w15.heap.size + 1, 0, none⟩) 1 1) ∧ W.cell? ⟨w15.heap.size + 1 + 1 + 1, 6, none⟩ = some (.slice (some ⟨w15.heap.size + 1 + 1, 0, none⟩) 1 1))) := fun W hW => by
  have h1 := d16.out.size
  have k0 := rangeAt_kept hW (by have := s6'.out; omega) (rangeAt_kept d16.out s6'.out v6'.out)
  have k1 := rangeAt_kept hW (by have := s11.out; omega) (rangeAt_kept d16.out s11.out v11.out)
  have k2 := rangeAt_kept hW v16.out.2 v16.out.1
  simp only [World.rangeAt, Nat.zero_add] at k0 k1 k2
  exact ⟨hW, k0 0 _ rfl, k0 1 _ rfl, k0 2 _ rfl, k0 3 _ rfl, k0 4 _ rfl, k0 5 _ rfl, k0 6 _ rfl, k1 0 _ rfl, k1 1 _ rfl, k1 2 _ rfl, k1 3 _ rfl, k1 4 _ rfl, k1 5 _ rfl, k1 6 _ rfl, k2 0 _ rfl, k2 1 _ rfl, k2 2 _ rfl, k2 3 _ rfl, k2 4 _ rfl, k2 5 _ rfl, k2 6 _ rfl⟩
 have hS0 := hmk.out wd (Below.refl _ _)
 clear hwd hwB o16 c3 c2H d15 d16 b11 v16 v6' v11 s6' s11
 go_cut [5] (fun s5 wc => ∃ cs : Clss, Hid (wc.ownsRow w.heap.size 49 7 s5 4 (rowsOf cs)) ∧ Hid (ClsIn w cs wc) ∧ Hid (cs.map (·.1) = boot4) ∧ Hid (Below w.heap.size w wc))
 case first =>
  go_region_held3 (fun W => Below wd.heap.size wd W ∧ W.cell? ⟨w5.heap.size + 1, 0, none⟩ = some (.string ⟨#[79, 98, 106, 101, 99, 116]⟩) ∧ W.cell? ⟨w5.heap.size + 1, 1, none⟩ = some (.string ⟨#[]⟩) ∧ W.cell? ⟨w5.heap.size + 1, 2, none⟩ = some (.slice none 0 0) ∧ W.cell? ⟨w5.heap.size + 1, 3, none⟩ = some (.int .i64 0) ∧ W.cell? ⟨w5.heap.size + 1, 4, none⟩ = some (.slice none 0 0) ∧ W.cell? ⟨w5.heap.size + 1, 5, none⟩ = some (.slice none 0 0) ∧ W.cell? ⟨w5.heap.size + 1, 6, none⟩ = some (.slice (some ⟨w5.heap.size, 0, none⟩) 5 5) ∧ W.cell? ⟨w10.heap.size + 1, 0, none⟩ = some (.string ⟨#[83, 116, 114, 105, 110, 103]⟩) ∧ W.cell? ⟨w10.heap.size + 1, 1, none⟩ = some (.string ⟨#[79, 98, 106, 101, 99, 116]⟩) ∧ W.cell? ⟨w10.heap.size + 1, 2, none⟩ = some (.slice none 0 0) ∧ W.cell? ⟨w10.heap.size + 1, 3, none⟩ = some (.int .i64 2) ∧ W.cell? ⟨w10.heap.size + 1, 4, none⟩ = some (.slice none 0 0) ∧ W.cell? ⟨w10.heap.size + 1, 5, none⟩ = some (.slice none 0 0) ∧ W.cell? ⟨w10.heap.size + 1, 6, none⟩ = some (.slice (some ⟨w10.heap.size, 0, none⟩) 5 5) ∧ W.cell? ⟨w15.heap.size + 1 + 1 + 1, 0, none⟩ = some (.string ⟨#[84, 104, 114, 111, 119, 97, 98, 108, 101]⟩) ∧ W.cell? ⟨w15.heap.size + 1 + 1 + 1, 1, none⟩ = some (.string ⟨#[79, 98, 106, 101, 99, 116]⟩) ∧ W.cell? ⟨w15.heap.size + 1 + 1 + 1, 2, none⟩ = some (.slice none 0 0) ∧ W.cell? ⟨w15.heap.size + 1 + 1 + 1, 3, none⟩ = some (.int .i64 0) ∧ W.cell? ⟨w15.heap.size + 1 + 1 + 1, 4, none⟩ = some (.slice none 0 0) ∧ W.cell? ⟨w15.heap.size + 1 + 1 + 1, 5, none⟩ = some (.slice (some ⟨w15.heap.size + 1, 0, none⟩) 1 1) ∧ W.cell? ⟨w15.heap.size + 1 + 1 + 1, 6, none⟩ = some (.slice (some ⟨w15.heap.size + 1 + 1, 0, none⟩) 1 1)) (first | assumption | exact hmk.out _ (Below.drew (And.left (by assumption))) | exact hmk.out _ (below_on (And.left (by assumption)) (below_1 _ _)) | exact hmk.out _ (below_on (And.left (by assumption)) (by assumption))) (first | (go_at_call 77; refine (l2Error_calls _ _ _).mono ?_; rintro e wq ⟨⟨pe, rfl, oq⟩, hbq⟩))
  all_goals (
   go_wp2_with fail
   go_meet
   have hbd : Below wd.heap.size wd wq := by first | assumption | exact below_on (Below.drew (Below.refl _ _)) hbq | exact below_on (Below.drew (Below.drew (Below.refl _ _))) hbq | exact below_on (And.left (by assumption)) hbq
   obtain ⟨F4, c4⟩ := c3H.out.add hbd b16.out.size rfl (ClassOwn.from (w0 := wd) oq (Nat.le_refl _))
   refine ⟨_, ?_, c4.call (below_1 _ _), rfl, below_on (below_on b16.out hbd) (below_1 _ _)⟩
   exact World.ownsRow_lit wq _ 4 (by have h1 := b16.out.size; have := hbd.size; omega) (by unfold maxLen; omega) rfl)
 case rest =>
 obtain ⟨cs, hown, hcl, hcx, hbw⟩ := hcut
 rename World => we
 clear hS0 hmk c3H b16
 go_wp2
 go_loopw [5, 7] (fun v i wr => ∃ (m : Nat) (cs : Clss), m ≤ 10 ∧ i = .int .i64 m ∧ Hid (wr.ownsRow w.heap.size 49 7 v (4 + m) (rowsOf cs)) ∧ Hid (ClsIn w cs wr) ∧ Hid (cs.map (·.1) = boot4 ++ (bootErrs.take m).map (fun n => errC n errS)) ∧ Hid (wr.heap[we.heap.size]? = some (.cells (bootErrs.map Value.string).toArray 9 (0, 0))) ∧ Hid (Below w.heap.size w wr)) (fun _ i _ => 10 - (intOf i).toNat)
 case atStart => exact ⟨0, cs, Nat.zero_le _, rfl, hown.out.alloc _, hcl.out.call (below_1 _ _), by show _ = _; rw [hcx.out]; rfl, heap_alloc_new we _, below_on hbw.out (below_1 _ _)⟩
 case round =>
  obtain ⟨m, cs, hm, rfl, ho, hc, hx, hq, hb⟩ := hrel
  rename World => wr
  clear hown hcl hcx hbw
  by_cases hlt : m < 10
  ·have hlt' : (m : Int) < 10 := by omega
   have hbl : m < bootErrs.length := hlt
   have hcell : wr.cell? ⟨we.heap.size, m, none⟩ = some (.string bootErrs[m]) := by
    simp [World.cell?, hq.out, hbl]
   have htk := List.take_append_getElem hbl
   obtain ⟨s, hs⟩ : ∃ s, s = bootErrs[m] := ⟨_, rfl⟩
   rw [← hs] at hcell htk
   have htkH : Hid (bootErrs.take m ++ [s] = bootErrs.take (m + 1)) := htk
   clear hs htk
   go_wp2_with (first
    | (go_at_call 77; refine (l2Error_calls _ _ _).mono ?_; rintro e wq ⟨⟨b, rfl, oq⟩, hbq⟩; have ho1 := ho.out.kept (grown_below hbq) (Classical.em _))
    | (refine wpList_append_own _ rfl _ _ 26 rfl w.heap.size 49 i0 _ 7 136 Tryz.underlying26 hi0 hz0 hz1 hz2 rfl (by decide) _ (4 + m) (rowsOf cs) rfl (ho1.alloc _) ⟨wq.heap.size, 0, none⟩ 1 1 [.string s, .string errS, .slice none 0 0, .int .i64 0, .slice none 0 0, .slice none 0 0, .slice (some ⟨b, 0, none⟩) 1 1] rfl rfl (fun j u hu => cells_newP wq _ _ 49 rfl j u hu) (ones7 s errS b) (by unfold maxLen; omega) (by omega) (by have h1 := hb.out.size; have h2 := hbq.size; simp; omega) ?_; intro v' w' hown' hgrow hnil))
   go_roundw
   case rel =>
    obtain ⟨F, cq⟩ := hc.out.add hbq hb.out.size rfl oq
    have cz := (cq.call (below_1 wq (.cells #[.string s, .string errS, .slice none 0 0, .int .i64 0, .slice none 0 0, .slice none 0 0, .slice (some ⟨b, 0, none⟩) 1 1] 49))).grown (ho1.alloc _) hgrow
    have hbz : Below w.heap.size w (wq.alloc (.cells #[.string s, .string errS, .slice none 0 0, .int .i64 0, .slice none 0 0, .slice none 0 0, .slice (some ⟨b, 0, none⟩) 1 1] 49)) := below_on (below_on hb.out hbq) (below_1 _ _)
    have hq1 := blk_alloc (.cells #[.string s, .string errS, .slice none 0 0, .int .i64 0, .slice none 0 0, .slice none 0 0, .slice (some ⟨b, 0, none⟩) 1 1] 49) (blk_call hq.out hbq)
    refine ⟨m + 1, _, by omega, by go_num, ?_, cz, ?_, other_blk (ho1.alloc _) (by decide) hq1 hgrow, hbz.grown hgrow hbz.size (fun k hk => ((ho1.alloc (.cells #[.string s, .string errS, .slice none 0 0, .int .i64 0, .slice none 0 0, .slice none 0 0, .slice (some ⟨b, 0, none⟩) 1 1] 49)).lt k hk).1)⟩
    ·show World.ownsRow _ _ _ _ _ _ _
     rw [rowsOf_snoc]
     exact hown'
    ·show _ = _
     rw [List.map_append, hx.out, ← htkH.out, List.map_append, List.append_assoc]
     rfl
   case measure => simp [intOf]; omega
  ·obtain rfl : m = 10 := by omega
   clear hlt
   have ho14 : Hid (wr.ownsRow w.heap.size 49 7 u5 14 (rowsOf cs)) := ho.out
   have hx14 : Hid (cs.map (·.1) = boot4 ++ bootErrs.map (fun n => errC n errS)) := hx.out
   clear ho hq hx
   go_wp2_with fail
   refine (l2Load_calls _ _ _).mono ?_
   rintro e x1 ⟨rfl, hx1⟩
   have fx1 : Hid (Below wr.heap.size wr x1) := below_on (Below.refl _ _) hx1
   clear hx1
   go_wp2_with fail
   refine (l2Call_calls _ _ _ _ _).mono ?_
   rintro e x2 ⟨rfl, hx2⟩
   have fx2 : Hid (Below wr.heap.size wr x2) := below_on fx1.out hx2
   clear hx2
   go_wp2_with fail
   refine (l2Return_calls _).mono ?_
   rintro e x3 ⟨rfl, hx3⟩
   have fx3 : Hid (Below wr.heap.size wr x3) := below_on fx2.out hx3
   clear hx3
   go_wp2_with fail
   refine (l2Return_calls _).mono ?_
   rintro e x4 ⟨rfl, hx4⟩
   have k1 : Hid (x4.heap[x3.heap.size]? = some (.cells #[.int .i64 4, .int .i64 4, .int .i64 0, .int .i64 0, .string ⟨#[]⟩, .string ⟨#[]⟩, .string ⟨#[]⟩, .string ⟨#[]⟩, .slice none 0 0, .int .i64 33, .int .i64 0, .int .i64 0, .int .i64 3, .string ⟨#[]⟩, .string ⟨#[79, 98, 106, 101, 99, 116]⟩, .string ⟨#[110, 101, 119]⟩, .string ⟨#[40, 41, 86]⟩, .slice none 0 0, .int .i64 44, .int .i64 0, .int .i64 0, .int .i64 0, .string ⟨#[]⟩, .string ⟨#[]⟩, .string ⟨#[]⟩, .string ⟨#[]⟩, .slice none 0 0] 110 (0, 0))) := blk_call (blk_alloc _ (heap_alloc_new x3 _)) hx4
   have k8 : Hid (x4.heap[x3.heap.size + 1]? = some (.cells #[.string ⟨#[110, 101, 119]⟩, .string ⟨#[40, 41, 86]⟩, .int .i64 0, .int .i64 1, .int .i64 1, .slice (some ⟨x3.heap.size, 0, none⟩) 3 3, .slice none 0 0, .slice none 0 0, .slice none 0 0] 91 (0, 0))) := blk_call (blk_second _ _) hx4
   have fx4 : Hid (Below wr.heap.size wr x4) := below_on (below_on fx3.out (below_2 _ _ _)) hx4
   clear hx4 fx1 fx2
   go_upto_region 13 with fail
   obtain ⟨wg, hwg⟩ : ∃ W : World, W = (x4.alloc (.cells #[.int .i64 44, .int .i64 0, .int .i64 0, .int .i64 0, .string ⟨#[]⟩, .string ⟨#[]⟩, .string ⟨#[]⟩, .string ⟨#[]⟩, .slice none 0 0] 110)).alloc (.cells #[.string ⟨#[114, 117, 110]⟩, .string ⟨#[40, 41, 86]⟩, .int .i64 0, .int .i64 0, .int .i64 1, .slice (some ⟨x4.heap.size, 0, none⟩) 1 1, .slice none 0 0, .slice none 0 0, .slice none 0 0] 91) := ⟨_, rfl⟩
   rw [← hwg]
   have hN : Hid (Below wr.heap.size wr wg) := by rw [hwg]; exact below_on fx4.out (below_2 _ _ _)
   have hR0 : RegT w u5 (rowsOf cs) x3.heap.size (x3.heap.size + 1) x4.heap.size (x4.heap.size + 1) #[.int .i64 4, .int .i64 4, .int .i64 0, .int .i64 0, .string ⟨#[]⟩, .string ⟨#[]⟩, .string ⟨#[]⟩, .string ⟨#[]⟩, .slice none 0 0, .int .i64 33, .int .i64 0, .int .i64 0, .int .i64 3, .string ⟨#[]⟩, .string ⟨#[79, 98, 106, 101, 99, 116]⟩, .string ⟨#[110, 101, 119]⟩, .string ⟨#[40, 41, 86]⟩, .slice none 0 0, .int .i64 44, .int .i64 0, .int .i64 0, .int .i64 0, .string ⟨#[]⟩, .string ⟨#[]⟩, .string ⟨#[]⟩, .string ⟨#[]⟩, .slice none 0 0] #[.string ⟨#[110, 101, 119]⟩, .string ⟨#[40, 41, 86]⟩, .int .i64 0, .int .i64 1, .int .i64 1, .slice (some ⟨x3.heap.size, 0, none⟩) 3 3, .slice none 0 0, .slice none 0 0, .slice none 0 0] #[.int .i64 44, .int .i64 0, .int .i64 0, .int .i64 0, .string ⟨#[]⟩, .string ⟨#[]⟩, .string ⟨#[]⟩, .string ⟨#[]⟩, .slice none 0 0] #[.string ⟨#[114, 117, 110]⟩, .string ⟨#[40, 41, 86]⟩, .int .i64 0, .int .i64 0, .int .i64 1, .slice (some ⟨x4.heap.size, 0, none⟩) 1 1, .slice none 0 0, .slice none 0 0, .slice none 0 0] wg := by
    rw [hwg]
    exact ⟨below_on hb.out (below_on fx4.out (below_2 _ _ _)), blk_alloc _ (blk_alloc _ k1.out), blk_alloc _ (blk_alloc _ k8.out), blk_alloc _ (heap_alloc_new x4 _), blk_second _ _, ho14.out.kept (grown_below (below_on fx4.out (below_2 _ _ _))) (Classical.em _)⟩
   have hmk : Hid (∀ W, RegT w u5 (rowsOf cs) x3.heap.size (x3.heap.size + 1) x4.heap.size (x4.heap.size + 1) #[.int .i64 4, .int .i64 4, .int .i64 0, .int .i64 0, .string ⟨#[]⟩, .string ⟨#[]⟩, .string ⟨#[]⟩, .string ⟨#[]⟩, .slice none 0 0, .int .i64 33, .int .i64 0, .int .i64 0, .int .i64 3, .string ⟨#[]⟩, .string ⟨#[79, 98, 106, 101, 99, 116]⟩, .string ⟨#[110, 101, 119]⟩, .string ⟨#[40, 41, 86]⟩, .slice none 0 0, .int .i64 44, .int .i64 0, .int .i64 0, .int .i64 0, .string ⟨#[]⟩, .string ⟨#[]⟩, .string ⟨#[]⟩, .string ⟨#[]⟩, .slice none 0 0] #[.string ⟨#[110, 101, 119]⟩, .string ⟨#[40, 41, 86]⟩, .int .i64 0, .int .i64 1, .int .i64 1, .slice (some ⟨x3.heap.size, 0, none⟩) 3 3, .slice none 0 0, .slice none 0 0, .slice none 0 0] #[.int .i64 44, .int .i64 0, .int .i64 0, .int .i64 0, .string ⟨#[]⟩, .string ⟨#[]⟩, .string ⟨#[]⟩, .string ⟨#[]⟩, .slice none 0 0] #[.string ⟨#[114, 117, 110]⟩, .string ⟨#[40, 41, 86]⟩, .int .i64 0, .int .i64 0, .int .i64 1, .slice (some ⟨x4.heap.size, 0, none⟩) 1 1, .slice none 0 0, .slice none 0 0, .slice none 0 0] W → (Hid (RegT w u5 (rowsOf cs) x3.heap.size (x3.heap.size + 1) x4.heap.size (x4.heap.size + 1) #[.int .i64 4, .int .i64 4, .int .i64 0, .int .i64 0, .string ⟨#[]⟩, .string ⟨#[]⟩, .string ⟨#[]⟩, .string ⟨#[]⟩, .slice none 0 0, .int .i64 33, .int .i64 0, .int .i64 0, .int .i64 3, .string ⟨#[]⟩, .string ⟨#[79, 98, 106, 101, 99, 116]⟩, .string ⟨#[110, 101, 119]⟩, .string ⟨#[40, 41, 86]⟩, .slice none 0 0, .int .i64 44, .int .i64 0, .int .i64 0, .int .i64 0, .string ⟨#[]⟩, .string ⟨#[]⟩, .string ⟨#[]⟩, .string ⟨#[]⟩, .slice none 0 0] #[.string ⟨#[110, 101, 119]⟩, .string ⟨#[40, 41, 86]⟩, .int .i64 0, .int .i64 1, .int .i64 1, .slice (some ⟨x3.heap.size, 0, none⟩) 3 3, .slice none 0 0, .slice none 0 0, .slice none 0 0] #[.int .i64 44, .int .i64 0, .int .i64 0, .int .i64 0, .string ⟨#[]⟩, .string ⟨#[]⟩, .string ⟨#[]⟩, .string ⟨#[]⟩, .slice none 0 0] #[.string ⟨#[114, 117, 110]⟩, .string ⟨#[40, 41, 86]⟩, .int .i64 0, .int .i64 0, .int .i64 1, .slice (some ⟨x4.heap.size, 0, none⟩) 1 1, .slice none 0 0, .slice none 0 0, .slice none 0 0] W) ∧ W.cell? ⟨x3.heap.size + 1, 0, none⟩ = some (.string ⟨#[110, 101, 119]⟩) ∧ W.cell? ⟨x3.heap.size + 1, 1, none⟩ = some (.string ⟨#[40, 41, 86]⟩) ∧ W.cell? ⟨x3.heap.size + 1, 2, none⟩ = some (.int .i64 0) ∧ W.cell? ⟨x3.heap.size + 1, 3, none⟩ = some (.int .i64 1) ∧ W.cell? ⟨x3.heap.size + 1, 4, none⟩ = some (.int .i64 1) ∧ W.cell? ⟨x3.heap.size + 1, 5, none⟩ = some (.slice (some ⟨x3.heap.size, 0, none⟩) 3 3) ∧ W.cell? ⟨x3.heap.size + 1, 6, none⟩ = some (.slice none 0 0) ∧ W.cell? ⟨x3.heap.size + 1, 7, none⟩ = some (.slice none 0 0) ∧ W.cell? ⟨x3.heap.size + 1, 8, none⟩ = some (.slice none 0 0) ∧ W.cell? ⟨x4.heap.size + 1, 0, none⟩ = some (.string ⟨#[114, 117, 110]⟩) ∧ W.cell? ⟨x4.heap.size + 1, 1, none⟩ = some (.string ⟨#[40, 41, 86]⟩) ∧ W.cell? ⟨x4.heap.size + 1, 2, none⟩ = some (.int .i64 0) ∧ W.cell? ⟨x4.heap.size + 1, 3, none⟩ = some (.int .i64 0) ∧ W.cell? ⟨x4.heap.size + 1, 4, none⟩ = some (.int .i64 1) ∧ W.cell? ⟨x4.heap.size + 1, 5, none⟩ = some (.slice (some ⟨x4.heap.size, 0, none⟩) 1 1) ∧ W.cell? ⟨x4.heap.size + 1, 6, none⟩ = some (.slice none 0 0) ∧ W.cell? ⟨x4.heap.size + 1, 7, none⟩ = some (.slice none 0 0) ∧ W.cell? ⟨x4.heap.size + 1, 8, none⟩ = some (.slice none 0 0))) := fun W hW => by
    have k0 := rangeAt_heap hW.k8
    have k1 := rangeAt_heap hW.k9
    simp only [World.rangeAt, Nat.zero_add] at k0 k1
    exact ⟨hW, k0 0 _ rfl, k0 1 _ rfl, k0 2 _ rfl, k0 3 _ rfl, k0 4 _ rfl, k0 5 _ rfl, k0 6 _ rfl, k0 7 _ rfl, k0 8 _ rfl, k1 0 _ rfl, k1 1 _ rfl, k1 2 _ rfl, k1 3 _ rfl, k1 4 _ rfl, k1 5 _ rfl, k1 6 _ rfl, k1 7 _ rfl, k1 8 _ rfl⟩
   have hS0 := hmk.out wg hR0
   have hszs : Hid (wr.heap.size ≤ x3.heap.size ∧ wr.heap.size ≤ x4.heap.size ∧ x3.heap.size < x4.heap.size) := ⟨fx3.out.size, fx4.out.size, heap_lt k1.out⟩
   clear hwg hR0 k1 k8 fx3 fx4
   go_cut [5] (fun s5 wc => ∃ ct : Clss, Hid (wc.ownsRow w.heap.size 49 7 s5 15 (rowsOf ct)) ∧ Hid (ClsIn w ct wc) ∧ Hid (ct.map (·.1) = boot4 ++ bootErrs.map (fun n => errC n errS) ++ [threadC]) ∧ Hid (Below w.heap.size w wc))
   case first =>
    go_region_held3 (fun W => Hid (RegT w u5 (rowsOf cs) x3.heap.size (x3.heap.size + 1) x4.heap.size (x4.heap.size + 1) #[.int .i64 4, .int .i64 4, .int .i64 0, .int .i64 0, .string ⟨#[]⟩, .string ⟨#[]⟩, .string ⟨#[]⟩, .string ⟨#[]⟩, .slice none 0 0, .int .i64 33, .int .i64 0, .int .i64 0, .int .i64 3, .string ⟨#[]⟩, .string ⟨#[79, 98, 106, 101, 99, 116]⟩, .string ⟨#[110, 101, 119]⟩, .string ⟨#[40, 41, 86]⟩, .slice none 0 0, .int .i64 44, .int .i64 0, .int .i64 0, .int .i64 0, .string ⟨#[]⟩, .string ⟨#[]⟩, .string ⟨#[]⟩, .string ⟨#[]⟩, .slice none 0 0] #[.string ⟨#[110, 101, 119]⟩, .string ⟨#[40, 41, 86]⟩, .int .i64 0, .int .i64 1, .int .i64 1, .slice (some ⟨x3.heap.size, 0, none⟩) 3 3, .slice none 0 0, .slice none 0 0, .slice none 0 0] #[.int .i64 44, .int .i64 0, .int .i64 0, .int .i64 0, .string ⟨#[]⟩, .string ⟨#[]⟩, .string ⟨#[]⟩, .string ⟨#[]⟩, .slice none 0 0] #[.string ⟨#[114, 117, 110]⟩, .string ⟨#[40, 41, 86]⟩, .int .i64 0, .int .i64 0, .int .i64 1, .slice (some ⟨x4.heap.size, 0, none⟩) 1 1, .slice none 0 0, .slice none 0 0, .slice none 0 0] W) ∧ W.cell? ⟨x3.heap.size + 1, 0, none⟩ = some (.string ⟨#[110, 101, 119]⟩) ∧ W.cell? ⟨x3.heap.size + 1, 1, none⟩ = some (.string ⟨#[40, 41, 86]⟩) ∧ W.cell? ⟨x3.heap.size + 1, 2, none⟩ = some (.int .i64 0) ∧ W.cell? ⟨x3.heap.size + 1, 3, none⟩ = some (.int .i64 1) ∧ W.cell? ⟨x3.heap.size + 1, 4, none⟩ = some (.int .i64 1) ∧ W.cell? ⟨x3.heap.size + 1, 5, none⟩ = some (.slice (some ⟨x3.heap.size, 0, none⟩) 3 3) ∧ W.cell? ⟨x3.heap.size + 1, 6, none⟩ = some (.slice none 0 0) ∧ W.cell? ⟨x3.heap.size + 1, 7, none⟩ = some (.slice none 0 0) ∧ W.cell? ⟨x3.heap.size + 1, 8, none⟩ = some (.slice none 0 0) ∧ W.cell? ⟨x4.heap.size + 1, 0, none⟩ = some (.string ⟨#[114, 117, 110]⟩) ∧ W.cell? ⟨x4.heap.size + 1, 1, none⟩ = some (.string ⟨#[40, 41, 86]⟩) ∧ W.cell? ⟨x4.heap.size + 1, 2, none⟩ = some (.int .i64 0) ∧ W.cell? ⟨x4.heap.size + 1, 3, none⟩ = some (.int .i64 0) ∧ W.cell? ⟨x4.heap.size + 1, 4, none⟩ = some (.int .i64 1) ∧ W.cell? ⟨x4.heap.size + 1, 5, none⟩ = some (.slice (some ⟨x4.heap.size, 0, none⟩) 1 1) ∧ W.cell? ⟨x4.heap.size + 1, 6, none⟩ = some (.slice none 0 0) ∧ W.cell? ⟨x4.heap.size + 1, 7, none⟩ = some (.slice none 0 0) ∧ W.cell? ⟨x4.heap.size + 1, 8, none⟩ = some (.slice none 0 0)) (first | assumption | exact hmk.out _ (RegT.append (Hid.out (And.left (by assumption))) hgrow hkeep) | exact hmk.out _ (RegT.call (Hid.out (And.left (by assumption))) hbq) | exact hmk.out _ (RegT.call (Hid.out (And.left (by assumption))) (below_1 _ _)) | exact hmk.out _ (RegT.drew (Hid.out (And.left (by assumption))))) (first
     | (go_at_call 74; refine (l2Native_calls _ _ _ (by decide) (by decide) _).mono ?_; rintro e wq ⟨rfl, hbq⟩; have hN1 : Below wr.heap.size wr wq := (by first | exact below_on hN.out hbq | exact below_on (Below.drew hN.out) hbq); have hN : Hid (Below wr.heap.size wr wq) := hN1; clear hN1)
     | (refine wp_append_keep _ _ _ 26 rfl w.heap.size 49 i0 _ 7 136 Tryz.underlying26 hi0 hz0 hz1 hz2 rfl (by decide) _ 14 (rowsOf cs) rfl (RegT.ho (Hid.out (And.left (by assumption)))) ⟨wq.heap.size + 1, 0, none⟩ 1 1 [.string ⟨#[84, 104, 114, 101, 97, 100]⟩, .string ⟨#[79, 98, 106, 101, 99, 116]⟩, .slice none 0 0, .int .i64 0, .slice none 0 0, .slice none 0 0, .slice (some ⟨wq.heap.size, 0, none⟩) 6 6] rfl rfl (fun j u hu => cells_newP _ _ _ 49 (by simp) j u hu) (onesT wq.heap.size) (by unfold maxLen; omega) (by omega) (Below.size (RegT.hb (Hid.out (And.left (by assumption))))) ?_; intro v' w' hown' hgrow hkeep))
    all_goals (
     go_wp2_with fail
     go_meet
     have hRW : RegT w u5 (rowsOf cs) x3.heap.size (x3.heap.size + 1) x4.heap.size (x4.heap.size + 1) #[.int .i64 4, .int .i64 4, .int .i64 0, .int .i64 0, .string ⟨#[]⟩, .string ⟨#[]⟩, .string ⟨#[]⟩, .string ⟨#[]⟩, .slice none 0 0, .int .i64 33, .int .i64 0, .int .i64 0, .int .i64 3, .string ⟨#[]⟩, .string ⟨#[79, 98, 106, 101, 99, 116]⟩, .string ⟨#[110, 101, 119]⟩, .string ⟨#[40, 41, 86]⟩, .slice none 0 0, .int .i64 44, .int .i64 0, .int .i64 0, .int .i64 0, .string ⟨#[]⟩, .string ⟨#[]⟩, .string ⟨#[]⟩, .string ⟨#[]⟩, .slice none 0 0] #[.string ⟨#[110, 101, 119]⟩, .string ⟨#[40, 41, 86]⟩, .int .i64 0, .int .i64 1, .int .i64 1, .slice (some ⟨x3.heap.size, 0, none⟩) 3 3, .slice none 0 0, .slice none 0 0, .slice none 0 0] #[.int .i64 44, .int .i64 0, .int .i64 0, .int .i64 0, .string ⟨#[]⟩, .string ⟨#[]⟩, .string ⟨#[]⟩, .string ⟨#[]⟩, .slice none 0 0] #[.string ⟨#[114, 117, 110]⟩, .string ⟨#[40, 41, 86]⟩, .int .i64 0, .int .i64 0, .int .i64 1, .slice (some ⟨x4.heap.size, 0, none⟩) 1 1, .slice none 0 0, .slice none 0 0, .slice none 0 0] w' := Hid.out (And.left (by assumption))
     obtain ⟨F, hF⟩ := thread_in hN.out ho14.out hc.out hszs.out hRW hgrow hb.out.size rfl
     refine ⟨_, ?_, hF, ?_, hRW.hb⟩
     ·show World.ownsRow _ _ _ _ _ _ _
      rw [rowsOf_snoc]
      exact hown'
     ·show _ = _
      rw [List.map_append, hx14.out]
      rfl)
   case rest =>
   obtain ⟨ct, ho15, hc15, hx15, hb15⟩ := hcut
   rename World => wh
   clear hS0 hmk hszs hN ho14 hx14 hc hb
   go_wp2_with fail
   refine (l2Native_calls _ _ _ (by decide) (by decide) _).mono ?_
   rintro e y1 ⟨rfl, hy1⟩
   have fy1 : Hid (Below wh.heap.size wh y1) := below_on (Below.refl _ _) hy1
   clear hy1
   go_wp2_with fail
   refine (l2Native_calls _ _ _ (by decide) (by decide) _).mono ?_
   rintro e y2 ⟨rfl, hy2⟩
   have fy2 : Hid (Below wh.heap.size wh y2) := below_on fy1.out hy2
   clear hy2
   go_wp2_with fail
   refine (l2Native_calls _ _ _ (by decide) (by decide) _).mono ?_
   rintro e y3 ⟨rfl, hy3⟩
   have fy3 : Hid (Below wh.heap.size wh y3) := below_on fy2.out hy3
   clear hy3
   go_wp2_with fail
   refine (l2Native_calls _ _ _ (by decide) (by decide) _).mono ?_
   rintro e y4 ⟨rfl, hy4⟩
   have fy4 : Hid (Below wh.heap.size wh y4) := below_on fy3.out hy4
   clear hy4
   have ho16 : Hid (y4.ownsRow w.heap.size 49 7 u5 15 (rowsOf ct)) := ho15.out.kept (grown_below fy4.out) (Classical.em _)
   go_wp2_with (refine wpList_append_own _ rfl _ _ 26 rfl w.heap.size 49 i0 _ 7 136 Tryz.underlying26 hi0 hz0 hz1 hz2 rfl (by decide) _ 15 (rowsOf ct) rfl ((ho16.out.alloc _).alloc _) ⟨y4.heap.size + 1, 0, none⟩ 1 1 [.string ⟨#[83, 121, 115, 116, 101, 109]⟩, .string ⟨#[79, 98, 106, 101, 99, 116]⟩, .slice none 0 0, .int .i64 2, .slice none 0 0, .slice none 0 0, .slice (some ⟨y4.heap.size, 0, none⟩) 4 4] rfl rfl (fun j u hu => cells_newP _ _ _ 49 (by simp) j u hu) (onesY y4.heap.size) (by unfold maxLen; omega) (by omega) (by have h1 := hb15.out.size; have h2 := fy4.out.size; simp; omega) ?_; intro v' w' hown' hgrow hnil)
   go_ret
   obtain ⟨F, hF⟩ := sys_in fy4.out ho15.out hc15.out hgrow hb15.out.size rfl
   have hL := hF.list (v := v') (n := 16) (by
    rw [show ∀ c : Clss, (c.map (·.2.1)).flatten = rowsOf c from fun _ => rfl, rowsOf_snoc]
    exact hown') (by
    have := congrArg List.length hx15.out
    simp [boot4, bootErrs] at this
    simp [this]) (by simp)
   obtain ⟨F', h1, h2, h3⟩ := hL
   refine ⟨⟨v', F', rfl, ?_, h2, h3, _, hown'⟩, (below_on (below_on hb15.out fy4.out) (below_2 _ _ _)).grown hgrow (below_on (below_on hb15.out fy4.out) (below_2 _ _ _)).size (fun k hk => (ho16.out.lt k hk).1)⟩
   rw [List.map_append, hx15.out] at h1
   exact h1
end Go.Proofs.YtjjccimeikkogaaGreatDoor.Bt
