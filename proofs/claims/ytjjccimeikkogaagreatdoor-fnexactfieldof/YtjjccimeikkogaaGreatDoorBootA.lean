import Derived.Test.YtjjccimeikkogaaGreatDoorDeepD
import Derived.Deep.DeepCutAuto
import Derived.Laws.OwnMore
set_option maxRecDepth 1000000
set_option maxHeartbeats 16000000
namespace Go.Proofs.YtjjccimeikkogaaGreatDoor
set_option linter.unusedVariables false
open Go.ChangeShapes Go.WideShapes Go.ChangeAt Go.RowKit
theorem below_2B (w : World) (a b : Obj) : Below w.heap.size w ((w.alloc a).alloc b) := ((Below.refl _ _).alloc (Nat.le_refl _) _).alloc (by simp) _
theorem grown_below {w w' : World} (h : Below w.heap.size w w') : w.grownBy w' none := ⟨h.os, h.tape, h.output, h.size, fun k hk _ => h.block k hk⟩
theorem l2Return_calls (w : World) : Calls Tryz.prog 73 #[] w fun e w' => e = .returned (.agg #[.int .i64 44, .int .i64 0, .int .i64 0, .int .i64 0, .string ⟨#[]⟩, .string ⟨#[]⟩, .string ⟨#[]⟩, .string ⟨#[]⟩, .slice none 0 0]) ∧ Below w.heap.size w w' := by
 go_enter Tryz.func73, Tryz.ntmps73
 go_wp2
 refine bodyPost_ret (v := .agg #[.int .i64 44, .int .i64 0, .int .i64 0, .int .i64 0, .string ⟨#[]⟩, .string ⟨#[]⟩, .string ⟨#[]⟩, .string ⟨#[]⟩, .slice none 0 0]) (results_cell_mid rfl _ _ w.heap.size [.int .i64 44, .int .i64 0, .int .i64 0, .int .i64 0, .string ⟨#[]⟩, .string ⟨#[]⟩, .string ⟨#[]⟩, .string ⟨#[]⟩, .slice none 0 0] _ rfl (rangeAt_heap (heap_alloc_new w _)) Tryz.underlying110 rfl (by kernel_rfl)) rfl ⟨rfl, below_1 _ _⟩
theorem l2Load_calls (k p : Int) (w : World) : Calls Tryz.prog 75 #[.int .i64 k, .int .i64 p] w fun e w' => e = .returned (.agg #[.int .i64 4, .int .i64 k, .int .i64 p, .int .i64 0, .string ⟨#[]⟩, .string ⟨#[]⟩, .string ⟨#[]⟩, .string ⟨#[]⟩, .slice none 0 0]) ∧ Below w.heap.size w w' := by
 go_enter Tryz.func75, Tryz.ntmps75
 go_wp2
 refine bodyPost_ret (v := .agg #[.int .i64 4, .int .i64 k, .int .i64 p, .int .i64 0, .string ⟨#[]⟩, .string ⟨#[]⟩, .string ⟨#[]⟩, .string ⟨#[]⟩, .slice none 0 0]) (results_cell_mid rfl _ _ w.heap.size [.int .i64 4, .int .i64 k, .int .i64 p, .int .i64 0, .string ⟨#[]⟩, .string ⟨#[]⟩, .string ⟨#[]⟩, .string ⟨#[]⟩, .slice none 0 0] _ rfl (rangeAt_heap (heap_alloc_new w _)) Tryz.underlying110 rfl (by kernel_rfl)) rfl ⟨rfl, below_1 _ _⟩
theorem l2Call_calls (h : Int) (c n s : ByteArray) (w : World) : Calls Tryz.prog 76 #[.int .i64 h, .string c, .string n, .string s] w fun e w' => e = .returned (.agg #[.int .i64 33, .int .i64 0, .int .i64 0, .int .i64 h, .string ⟨#[]⟩, .string c, .string n, .string s, .slice none 0 0]) ∧ Below w.heap.size w w' := by
 go_enter Tryz.func76, Tryz.ntmps76
 go_wp2
 refine bodyPost_ret (v := .agg #[.int .i64 33, .int .i64 0, .int .i64 0, .int .i64 h, .string ⟨#[]⟩, .string c, .string n, .string s, .slice none 0 0]) (results_cell_mid rfl _ _ w.heap.size [.int .i64 33, .int .i64 0, .int .i64 0, .int .i64 h, .string ⟨#[]⟩, .string c, .string n, .string s, .slice none 0 0] _ rfl (rangeAt_heap (heap_alloc_new w _)) Tryz.underlying110 rfl (by kernel_rfl)) rfl ⟨rfl, below_1 _ _⟩
theorem l2Native_calls (n s : ByteArray) (f : Int) (h0 : 0 ≤ f) (h1 : f ≤ 2) (w : World) : Calls Tryz.prog 74 #[.string n, .string s, .int .i64 f] w fun e w' => e = .returned (.agg #[.string n, .string s, .int .i64 (f + 64), .int .i64 0, .int .i64 0, .slice none 0 0, .slice none 0 0, .slice none 0 0, .slice none 0 0]) ∧ Below w.heap.size w w' := by
 go_enter Tryz.func74, Tryz.ntmps74
 go_wp2
 refine bodyPost_ret (v := .agg #[.string n, .string s, .int .i64 (f + 64), .int .i64 0, .int .i64 0, .slice none 0 0, .slice none 0 0, .slice none 0 0, .slice none 0 0]) (results_cell_mid rfl _ _ w.heap.size [.string n, .string s, .int .i64 (f + 64), .int .i64 0, .int .i64 0, .slice none 0 0, .slice none 0 0, .slice none 0 0, .slice none 0 0] _ rfl (rangeAt_heap (heap_alloc_new w _)) Tryz.underlying91 rfl (by kernel_rfl)) rfl ⟨rfl, below_1 _ _⟩
structure Own7 (w W : World) : Prop where
 hb : Below w.heap.size w W
 sz : w.heap.size + 1 ≤ W.heap.size
 th : W.there w.heap.size 0 7
theorem Own7.call {w W W' : World} (h : Own7 w W) (hb : Below W.heap.size W W') : Own7 w W' := ⟨below_on2 h.hb hb, Nat.le_trans h.sz hb.size, there_kept hb (by have := h.sz; omega) h.th⟩
theorem l2Error_calls (n s : ByteArray) (w : World) : Calls Tryz.prog 77 #[.string n, .string s] w fun e w' => (∃ b, e = .returned (.agg #[.string n, .string s, .slice none 0 0, .int .i64 0, .slice none 0 0, .slice none 0 0, .slice (some ⟨b, 0, none⟩) 1 1])) ∧ Below w.heap.size w w' := by
 have hinf : Hid ((Tryz.prog.info? 49).map (·.size) = some 7) := by show (Tryz.prog.info? 49).map (·.size) = some 7; kernel_rfl
 go_enter Tryz.func77, Tryz.ntmps77
 go_wp2_with fail
 obtain ⟨W0, hW0⟩ : ∃ W : World, W = w.alloc (.cells #[.string ⟨#[]⟩, .string ⟨#[]⟩, .slice none 0 0, .int .i64 0, .slice none 0 0, .slice none 0 0, .slice none 0 0] 49) := ⟨_, rfl⟩
 rw [← hW0]
 have r0 : Hid (Own7 w W0) := by rw [hW0]; exact ⟨below_1 _ _, by simp, there_heap (heap_alloc_new w _)⟩
 clear hW0
 refine (l2Load_calls 4 0 W0).mono ?_
 rintro e w1 ⟨rfl, hb1⟩
 have r1 : Hid (Own7 w w1) := r0.out.call hb1
 go_wp2_with fail
 refine (l2Load_calls 4 1 w1).mono ?_
 rintro e w2 ⟨rfl, hb2⟩
 have r2 : Hid (Own7 w w2) := r1.out.call hb2
 go_wp2_with fail
 refine (l2Call_calls _ _ _ _ w2).mono ?_
 rintro e w3 ⟨rfl, hb3⟩
 have r3 : Hid (Own7 w w3) := r2.out.call hb3
 go_wp2_with fail
 refine (l2Return_calls w3).mono ?_
 rintro e w4 ⟨rfl, hb4⟩
 have r4 : Hid (Own7 w w4) := r3.out.call hb4
 clear hb1 hb2 hb3 hb4 r0 r1 r2 r3
 have h6 : Hid (∀ A B, Own7 w ((w4.alloc A).alloc B)) := fun A B => r4.out.call (below_2B _ _ _)
 go_wp2_with (refine wpList_store_mid rfl 49 _ _ rfl w.heap.size 0 #[.string n, .string s, .slice none 0 0, .int .i64 0, .slice none 0 0, .slice none 0 0, .slice (some ⟨w4.heap.size + 1, 0, none⟩) 1 1] rfl (by first | rfl | (simp; done)) (h6.out _ _).th hinf.out (OneCells.all (row := [.string n, .string s, .slice none 0 0, .int .i64 0, .slice none 0 0, .slice none 0 0, .slice (some ⟨w4.heap.size + 1, 0, none⟩) 1 1]) rfl) ?_)
 refine bodyPost_ret (v := .agg #[.string n, .string s, .slice none 0 0, .int .i64 0, .slice none 0 0, .slice none 0 0, .slice (some ⟨w4.heap.size + 1, 0, none⟩) 1 1]) (results_cell_mid rfl _ _ w.heap.size [.string n, .string s, .slice none 0 0, .int .i64 0, .slice none 0 0, .slice none 0 0, .slice (some ⟨w4.heap.size + 1, 0, none⟩) 1 1] _ rfl (World.rangeAt_setCells_same _ _ _ _ (h6.out _ _).th) Tryz.underlying49 rfl hinf.out) rfl ⟨⟨_, rfl⟩, below_setCells _ (Nat.le_refl _) _ _ _ (h6.out _ _).hb⟩
theorem append_keeps {P : Program} {w w' : World} {base : Nat} {t ty e : TypeId} {i : TypeInfo} {z : Value} {size bytes : Nat} (ht : P.underlying t = some (.slice e)) (hi : P.info? e = some i) (hz : i.zero = some z)
  (hsize : i.size = size) (hby : i.bytes = bytes) {v v' : Value} {n : Nat} {xs : List Value} (hown : w.ownsRow base e size v n xs) {a : Addr} {m c : Nat} {news : List Value} (hl : news.length = m * size)
  (hnews : ∀ j u, news[j]? = some u → w.cell? (a.add j) = some u) (h1 : ∀ u ∈ news, u.oneCell' = true) (h63 : n + m ≤ maxLen) (hbytes : (n + m) * bytes ≤ 140737488355328)
  (hr : (Builtin.append_ #[t, t] ty #[v, .slice (some a) m c]).run P w = .ok v' w') : w'.ownsRow base e size v n xs := by
 subst hsize hby
 have h64 : n + m ≤ 9223372036854775807 := by unfold maxLen at h63; omega
 obtain ⟨hlen, h | ⟨g, cap, cur, rfl, hbg, hg, hnc, hcm, hcs, htake⟩⟩ := hown
 ·obtain ⟨rfl, rfl⟩ := h
  have : xs = [] := List.eq_nil_of_length_eq_zero (by simpa using hlen)
  subst this
  exact World.ownsRow_nil _ _ _ _
 ·by_cases hroom : n + m ≤ cap
  ·have hfit : n * i.size + news.length ≤ cur.size := by rw [hl, hcs, ← Nat.add_mul]; exact Nat.mul_le_mul_right _ hroom
   rw [run_append_room (P := P) w t ty e i ht hi g n cap cur hg a m c news hl hnews h1 hroom hfit] at hr
   injection hr with _ hw
   subst hw
   refine ⟨hlen, .inr ⟨g, cap, _, rfl, hbg, setRow_heap w g cur _ e _ hg, hnc, hcm, ?_, ?_⟩⟩
   ·have : cur.toList.length = cur.size := Array.length_toList
    simp only [List.size_toArray, List.length_append, List.length_take, List.length_drop, this]
    omega
   ·show ((cur.toList.take (n * i.size) ++ news ++ cur.toList.drop (n * i.size + news.length)).take (n * i.size)) = xs
    rw [htake, List.append_assoc, ← hlen]
    exact List.take_left
  ·have holds : ∀ j u, xs[j]? = some u → w.cell? ((⟨g, 0, none⟩ : Addr).add j) = some u := World.ownsRow.cells (base := base) (e := e) (size := i.size) (v := .slice (some ⟨g, 0, none⟩) n cap) (n := n) ⟨hlen, .inr ⟨g, cap, cur, rfl, hbg, hg, hnc, hcm, hcs, htake⟩⟩ rfl
   rw [run_append_grow (P := P) w t ty e i z ht hi hz ⟨g, 0, none⟩ n cap xs hlen holds a m c news hl hnews (by omega) (by omega) (growslice_fits (by omega) hbytes)] at hr
   injection hr with _ hw
   subst hw
   refine ⟨hlen, .inr ⟨g, cap, cur, rfl, hbg, ?_, hnc, hcm, hcs, htake⟩⟩
   exact (Below.heap_alloc w.drew _ g (Array.getElem?_eq_some_iff.1 hg).1).trans hg
theorem wp_append_keep {P : Program} (w : World) {o : Oper} {a : Act} {K : Act → World → Prop} {Q : Exit → Act → World → Prop} (s x : Operand) (t : TypeId)
  (ho : o.op = .call { callee := .builtin .append, args := #[s, x], argTypes := #[t, t] })
  (base : Nat) (e : TypeId) (i : TypeInfo) (z : Value) (size bytes : Nat) (ht : P.underlying t = some (.slice e)) (hi : P.info? e = some i) (hz : i.zero = some z)
  (hsize : i.size = size) (hby : i.bytes = bytes) (hzs : z.cells.size = size) (hsz : 0 < size) (v : Value) (n : Nat) (xs : List Value) (hs : a.eval s = v) (hown : w.ownsRow base e size v n xs)
  (ad : Addr) (m c : Nat) (news : List Value) (hx : a.eval x = .slice (some ad) m c) (hl : news.length = m * size) (hnews : ∀ j u, news[j]? = some u → w.cell? (ad.add j) = some u) (h1 : ∀ u ∈ news, u.oneCell' = true)
  (h63 : n + m ≤ maxLen) (hbytes : (n + m) * bytes ≤ 140737488355328) (hbase : base ≤ w.heap.size)
  (h : ∀ v' w', w'.ownsRow base e size v' (n + m) (xs ++ news) → w.grownBy w' v.ownBlock → w'.ownsRow base e size v n xs → K (a.put o.dst v') w') : o.wp P a w K Q := by
 obtain ⟨v', w', hr, h2, h3, -⟩ := run_append_own (P := P) w base t o.type e i z size bytes ht hi hz hsize hby hzs hsz v n xs hown ad m c news hl hnews h1 h63 hbytes hbase
 have h4 := append_keeps ht hi hz hsize hby hown hl hnews h1 h63 hbytes hr
 unfold Oper.wp execOp
 simp only [ho, resolve, invoke, builtin, Sem.run_bind, Sem.run_pure, Result.andThen_ok, List.map_toArray, List.map_cons, List.map_nil, hs, hx, hr]
 exact h v' w' h2 h3 h4
theorem cells_new (W : World) (cs : Array Value) (t : TypeId) (j : Nat) (u : Value) (h : cs.toList[j]? = some u) : (W.alloc (.cells cs t)).cell? ((⟨W.heap.size, 0, none⟩ : Addr).add j) = some u := by
 have := rangeAt_heap (heap_alloc_new W (.cells cs t)) j u h
 rw [Addr.add_mid]
 exact this
theorem cells_newP (W : World) (p : Nat) (cs : Array Value) (t : TypeId) (hp : p = W.heap.size) (j : Nat) (u : Value) (h : cs.toList[j]? = some u) : (W.alloc (.cells cs t)).cell? ((⟨p, 0, none⟩ : Addr).add j) = some u := by
 subst hp
 exact cells_new W cs t j u h
theorem onesG (s t : ByteArray) (f : Int) (b n : Nat) : ∀ u ∈ ([.string s, .string t, .slice none 0 0, .int .i64 f, .slice none 0 0, .slice none 0 0, .slice (some ⟨b, 0, none⟩) n n] : List Value), u.oneCell' = true := fun u hu => List.all_eq_true.1 (show List.all [.string s, .string t, .slice none 0 0, .int .i64 f, .slice none 0 0, .slice none 0 0, .slice (some ⟨b, 0, none⟩) n n] (·.oneCell') = true from rfl) u hu
theorem other_block {W W' : World} {base n q : Nat} {v : Value} {cs : List Value} {arr : Array Value} {e t : TypeId} {k : Nat} (ho : W.ownsRow base e k v n cs) (hne : t ≠ e) (hq : W.heap[q]? = some (.cells arr t (0, 0))) (hg : W.grownBy W' v.ownBlock) : W'.heap[q]? = some (.cells arr t (0, 0)) := by
 refine (hg.block q (Array.getElem?_eq_some_iff.1 hq).1 fun h => ?_).trans hq
 obtain ⟨_, ⟨rfl, _⟩ | ⟨g, cap, cur, rfl, _, hgg, _⟩⟩ := ho
 ·cases h
 ·have : q = g := by simpa [Value.ownBlock] using h
  subst this
  rw [hq] at hgg
  injection hgg with hgg
  injection hgg with _ h2 _
  exact hne h2
structure Reg (w : World) (p q : Nat) (A B : Array Value) (v : Value) (n : Nat) (cs : List Value) (W : World) : Prop where
 hb : Below w.heap.size w W
 hp : W.heap[p]? = some (.cells A 91 (0, 0))
 hq : W.heap[q]? = some (.cells B 91 (0, 0))
 ho : W.ownsRow w.heap.size 49 7 v n cs
theorem Reg.drew {w : World} {p q : Nat} {A B : Array Value} {v : Value} {n : Nat} {cs : List Value} {W : World} (h : Reg w p q A B v n cs W) : Reg w p q A B v n cs W.drew := ⟨h.hb.drew, h.hp, h.hq, h.ho⟩
theorem Reg.call {w : World} {p q : Nat} {A B : Array Value} {v : Value} {n : Nat} {cs : List Value} {W W' : World} (h : Reg w p q A B v n cs W) (hb : Below W.heap.size W W') : Reg w p q A B v n cs W' :=
 ⟨below_on2 h.hb hb, (hb.block p (Array.getElem?_eq_some_iff.1 h.hp).1).trans h.hp, (hb.block q (Array.getElem?_eq_some_iff.1 h.hq).1).trans h.hq, h.ho.kept (grown_below hb) (Classical.em _)⟩
theorem Reg.append {w : World} {p q : Nat} {A B : Array Value} {v : Value} {n : Nat} {cs : List Value} {W W' : World} (h : Reg w p q A B v n cs W) (hg : W.grownBy W' v.ownBlock) (hk : W'.ownsRow w.heap.size 49 7 v n cs) : Reg w p q A B v n cs W' :=
 ⟨h.hb.grown hg h.hb.size (fun k hk => (h.ho.lt k hk).1), other_block h.ho (by decide) h.hp hg, other_block h.ho (by decide) h.hq hg, hk⟩
def NameAt (W : World) (p : Nat) (s : ByteArray) : Prop := ∃ v1 v2 v3 v4 v5 v6, W.rangeAt p 0 [.string s, v1, v2, v3, v4, v5, v6] ∧ OneCells [.string s, v1, v2, v3, v4, v5, v6] ∧ p < W.heap.size
theorem NameAt.call {W W' : World} {p : Nat} {s : ByteArray} (h : NameAt W p s) (hb : Below W.heap.size W W') : NameAt W' p s := by
 obtain ⟨v1, v2, v3, v4, v5, v6, h1, h2, h3⟩ := h
 exact ⟨v1, v2, v3, v4, v5, v6, rangeAt_same (Same.below hb) (Nat.zero_le _) h3 h1, h2, Nat.lt_of_lt_of_le h3 hb.size⟩
theorem NameAt.new (W : World) (p : Nat) (s : ByteArray) (v1 v2 v3 v4 v5 v6 : Value) (h : OneCells [.string s, v1, v2, v3, v4, v5, v6]) (hp : p = W.heap.size) : NameAt (W.alloc (.cells #[.string s, v1, v2, v3, v4, v5, v6] 49)) p s := by
 subst hp
 exact ⟨v1, v2, v3, v4, v5, v6, rangeAt_heap (heap_alloc_new W _), h, by simp⟩
def Heads (cells : List Value) (ns : List ByteArray) : Prop := cells.length = 7 * ns.length ∧ ∀ i (h : i < ns.length), cells[7 * i]? = some (.string ns[i])
theorem Heads.snoc {cells : List Value} {ns : List ByteArray} (h : Heads cells ns) (s : ByteArray) (v1 v2 v3 v4 v5 v6 : Value) : Heads (cells ++ [.string s, v1, v2, v3, v4, v5, v6]) (ns ++ [s]) := by
 obtain ⟨h1, h2⟩ := h
 refine ⟨by simp [h1]; omega, fun i hi => ?_⟩
 by_cases e : i < ns.length
 ·rw [List.getElem?_append_left (by omega), h2 i e, List.getElem_append_left e]
 ·have e2 : i = ns.length := by simp at hi; omega
  subst e2
  rw [List.getElem?_append_right (by omega)]
  simp [h1]
def MethAt (W : World) (p : Nat) (a0 a1 a2 a3 a4 a5 a6 a7 a8 : Value) : Prop := W.heap[p]? = some (.cells #[a0, a1, a2, a3, a4, a5, a6, a7, a8] 91 (0, 0)) ∧ OneCells [a0, a1, a2, a3, a4, a5, a6, a7, a8]
theorem MethAt.new (W : World) (p : Nat) (a0 a1 a2 a3 a4 a5 a6 a7 a8 : Value) (hp : p = W.heap.size) (h : OneCells [a0, a1, a2, a3, a4, a5, a6, a7, a8]) : MethAt (W.alloc (.cells #[a0, a1, a2, a3, a4, a5, a6, a7, a8] 91)) p a0 a1 a2 a3 a4 a5 a6 a7 a8 := by
 subst hp
 exact ⟨heap_alloc_new W _, h⟩
theorem MethAt.call {W W' : World} {p : Nat} {a0 a1 a2 a3 a4 a5 a6 a7 a8 : Value} (h : MethAt W p a0 a1 a2 a3 a4 a5 a6 a7 a8) (hb : Below W.heap.size W W') : MethAt W' p a0 a1 a2 a3 a4 a5 a6 a7 a8 := ⟨(hb.block p (Array.getElem?_eq_some_iff.1 h.1).1).trans h.1, h.2⟩
def bnT : ByteArray := ⟨#[84, 104, 114, 101, 97, 100]⟩
theorem ones7 (s t : ByteArray) (b : Nat) : ∀ u ∈ ([.string s, .string t, .slice none 0 0, .int .i64 0, .slice none 0 0, .slice none 0 0, .slice (some ⟨b, 0, none⟩) 1 1] : List Value), u.oneCell' = true := fun u hu => List.all_eq_true.1 (show List.all [.string s, .string t, .slice none 0 0, .int .i64 0, .slice none 0 0, .slice none 0 0, .slice (some ⟨b, 0, none⟩) 1 1] (·.oneCell') = true from rfl) u hu
theorem info55 : (Tryz.prog.info? 49).map (fun i => (i.zero, i.size, i.bytes)) = some (some (.agg #[.string ⟨#[]⟩, .string ⟨#[]⟩, .slice none 0 0, .int .i64 0, .slice none 0 0, .slice none 0 0, .slice none 0 0]), 7, 136) := by kernel_rfl
def bn0 : ByteArray := ⟨#[79, 98, 106, 101, 99, 116]⟩
def bn1 : ByteArray := ⟨#[83, 116, 114, 105, 110, 103]⟩
def bn2 : ByteArray := ⟨#[84, 104, 114, 111, 119, 97, 98, 108, 101]⟩
def bn3 : ByteArray := ⟨#[69, 114, 114, 111, 114]⟩
def bootErrs : List ByteArray := [⟨#[78, 117, 108, 108, 69, 114, 114, 111, 114]⟩, ⟨#[65, 114, 105, 116, 104, 69, 114, 114, 111, 114]⟩, ⟨#[66, 111, 117, 110, 100, 115, 69, 114, 114, 111, 114]⟩, ⟨#[67, 97, 115, 116, 69, 114, 114, 111, 114]⟩, ⟨#[83, 116, 111, 114, 101, 69, 114, 114, 111, 114]⟩, ⟨#[83, 105, 122, 101, 69, 114, 114, 111, 114]⟩, ⟨#[83, 116, 97, 116, 101, 69, 114, 114, 111, 114]⟩, ⟨#[76, 105, 110, 107, 69, 114, 114, 111, 114]⟩, ⟨#[73, 110, 105, 116, 69, 114, 114, 111, 114]⟩, ⟨#[83, 116, 111, 112, 69, 114, 114, 111, 114]⟩]
theorem specBoot_calls (w : World) : Calls Tryz.prog 46 #[] w fun e w' => (∃ u cells, e = .returned u ∧ w'.ownsRow w.heap.size 49 7 u 16 cells ∧ Heads cells ([bn0, bn1, bn2, bn3] ++ bootErrs ++ [⟨#[84, 104, 114, 101, 97, 100]⟩, ⟨#[83, 121, 115, 116, 101, 109]⟩])) ∧ Below w.heap.size w w' := by
 obtain ⟨i0, hi0, hz0, hz1, hz2⟩ := info_parts info55
 go_enter Tryz.func46, Tryz.ntmps46
 go_upto_region 1 with fail
 go_cut [1] (fun s1 wc => ∃ p, s1 = .pointer (some ⟨p, 0, none⟩) ∧ NameAt wc p bn0 ∧ Below w.heap.size w wc)
 case first =>
  go_wp2_with (first
  | (go_at_call 73; refine (l2Return_calls _).mono ?_; rintro e wq ⟨rfl, hbq⟩)
  | (go_at_call 74; refine (l2Native_calls _ _ _ (by decide) (by decide) _).mono ?_; rintro e wq ⟨rfl, hbq⟩)
  | (go_at_call 75; refine (l2Load_calls _ _ _).mono ?_; rintro e wq ⟨rfl, hbq⟩)
  | (go_at_call 76; refine (l2Call_calls _ _ _ _ _).mono ?_; rintro e wq ⟨rfl, hbq⟩))
  go_meet
  refine ⟨_, rfl, ?_, ?_⟩
  ·exact NameAt.new _ _ bn0 _ _ _ _ _ _ (by rfl) (by simp)
  ·(repeat (first | assumption | exact Below.refl _ _ | (refine below_on2 ?_ (below_1 _ _)) | (refine below_on2 ?_ (by assumption))))
 case rest =>
 obtain ⟨p1, rfl, n1, b1⟩ := hcut
 rename World => wa
 go_upto_region 2 with fail
 go_cut [2] (fun s2 wc => ∃ p, s2 = .pointer (some ⟨p, 0, none⟩) ∧ NameAt wc p bn1 ∧ NameAt wc p1 bn0 ∧ Below w.heap.size w wc)
 case first =>
  go_wp2_with (first
  | (go_at_call 73; refine (l2Return_calls _).mono ?_; rintro e wq ⟨rfl, hbq⟩)
  | (go_at_call 74; refine (l2Native_calls _ _ _ (by decide) (by decide) _).mono ?_; rintro e wq ⟨rfl, hbq⟩)
  | (go_at_call 75; refine (l2Load_calls _ _ _).mono ?_; rintro e wq ⟨rfl, hbq⟩)
  | (go_at_call 76; refine (l2Call_calls _ _ _ _ _).mono ?_; rintro e wq ⟨rfl, hbq⟩))
  go_meet
  refine ⟨_, rfl, ?_, ?_, ?_⟩
  ·exact NameAt.new _ _ bn1 _ _ _ _ _ _ (by rfl) (by simp)
  ·refine n1.call ?_
   (repeat (first | assumption | exact Below.refl _ _ | (refine below_on2 ?_ (below_1 _ _)) | (refine below_on2 ?_ (by assumption))))
  ·(repeat (first | assumption | exact Below.refl _ _ | (refine below_on2 ?_ (below_1 _ _)) | (refine below_on2 ?_ (by assumption))))
 case rest =>
 obtain ⟨p2, rfl, n2, n1', b2⟩ := hcut
 rename World => wb
 clear n1 b1
 go_upto_region 4 with (first
  | (go_at_call 73; refine (l2Return_calls _).mono ?_; rintro e wq ⟨rfl, hbq⟩)
  | (go_at_call 74; refine (l2Native_calls _ _ _ (by decide) (by decide) _).mono ?_; rintro e wq ⟨rfl, hbq⟩)
  | (go_at_call 75; refine (l2Load_calls _ _ _).mono ?_; rintro e wq ⟨rfl, hbq⟩)
  | (go_at_call 76; refine (l2Call_calls _ _ _ _ _).mono ?_; rintro e wq ⟨rfl, hbq⟩))
 go_cut [4] (fun s4 wc => ∃ p, s4 = .pointer (some ⟨p, 0, none⟩) ∧ NameAt wc p bn2 ∧ NameAt wc p2 bn1 ∧ NameAt wc p1 bn0 ∧ Below w.heap.size w wc)
 case first =>
  go_wp2_with (first
  | (go_at_call 73; refine (l2Return_calls _).mono ?_; rintro e wq ⟨rfl, hbq⟩)
  | (go_at_call 74; refine (l2Native_calls _ _ _ (by decide) (by decide) _).mono ?_; rintro e wq ⟨rfl, hbq⟩)
  | (go_at_call 75; refine (l2Load_calls _ _ _).mono ?_; rintro e wq ⟨rfl, hbq⟩)
  | (go_at_call 76; refine (l2Call_calls _ _ _ _ _).mono ?_; rintro e wq ⟨rfl, hbq⟩))
  go_meet
  refine ⟨_, rfl, ?_, ?_, ?_, ?_⟩
  ·exact NameAt.new _ _ bn2 _ _ _ _ _ _ (by rfl) (by simp)
  ·refine n2.call ?_
   (repeat (first | assumption | exact Below.refl _ _ | (refine below_on2 ?_ (below_1 _ _)) | (refine below_on2 ?_ (by assumption))))
  ·refine n1'.call ?_
   (repeat (first | assumption | exact Below.refl _ _ | (refine below_on2 ?_ (below_1 _ _)) | (refine below_on2 ?_ (by assumption))))
  ·(repeat (first | assumption | exact Below.refl _ _ | (refine below_on2 ?_ (below_1 _ _)) | (refine below_on2 ?_ (by assumption))))
 case rest =>
 obtain ⟨p4, rfl, n4, n2', n1'', b4⟩ := hcut
 rename World => wd
 obtain ⟨v01, v02, v03, v04, v05, v06, g0, o0, l0⟩ := n1''
 obtain ⟨v11, v12, v13, v14, v15, v16, g1, o1, l1⟩ := n2'
 obtain ⟨v21, v22, v23, v24, v25, v26, g2, o2, l2⟩ := n4
 go_upto_region 5 with fail
 go_cut [5] (fun s5 wc => ∃ cells, Hid (wc.ownsRow w.heap.size 49 7 s5 4 cells) ∧ Hid (Heads cells [bn0, bn1, bn2, bn3]) ∧ Hid (Below w.heap.size w wc))
 case first =>
  have hmk : Hid (∀ W, Below wd.heap.size wd W → (Below wd.heap.size wd W ∧ W.cell? ⟨p1, 0, none⟩ = some (.string bn0) ∧ W.cell? ⟨p1, 1, none⟩ = some (v01) ∧ W.cell? ⟨p1, 2, none⟩ = some (v02) ∧ W.cell? ⟨p1, 3, none⟩ = some (v03) ∧ W.cell? ⟨p1, 4, none⟩ = some (v04) ∧ W.cell? ⟨p1, 5, none⟩ = some (v05) ∧ W.cell? ⟨p1, 6, none⟩ = some (v06) ∧ W.cell? ⟨p2, 0, none⟩ = some (.string bn1) ∧ W.cell? ⟨p2, 1, none⟩ = some (v11) ∧ W.cell? ⟨p2, 2, none⟩ = some (v12) ∧ W.cell? ⟨p2, 3, none⟩ = some (v13) ∧ W.cell? ⟨p2, 4, none⟩ = some (v14) ∧ W.cell? ⟨p2, 5, none⟩ = some (v15) ∧ W.cell? ⟨p2, 6, none⟩ = some (v16) ∧ W.cell? ⟨p4, 0, none⟩ = some (.string bn2) ∧ W.cell? ⟨p4, 1, none⟩ = some (v21) ∧ W.cell? ⟨p4, 2, none⟩ = some (v22) ∧ W.cell? ⟨p4, 3, none⟩ = some (v23) ∧ W.cell? ⟨p4, 4, none⟩ = some (v24) ∧ W.cell? ⟨p4, 5, none⟩ = some (v25) ∧ W.cell? ⟨p4, 6, none⟩ = some (v26))) := fun W hW => by
   have k0 := rangeAt_same (Same.below hW) (Nat.zero_le _) l0 g0
   have k1 := rangeAt_same (Same.below hW) (Nat.zero_le _) l1 g1
   have k2 := rangeAt_same (Same.below hW) (Nat.zero_le _) l2 g2
   simp only [World.rangeAt, Nat.zero_add] at k0 k1 k2
   exact ⟨hW, k0 0 _ rfl, k0 1 _ rfl, k0 2 _ rfl, k0 3 _ rfl, k0 4 _ rfl, k0 5 _ rfl, k0 6 _ rfl, k1 0 _ rfl, k1 1 _ rfl, k1 2 _ rfl, k1 3 _ rfl, k1 4 _ rfl, k1 5 _ rfl, k1 6 _ rfl, k2 0 _ rfl, k2 1 _ rfl, k2 2 _ rfl, k2 3 _ rfl, k2 4 _ rfl, k2 5 _ rfl, k2 6 _ rfl⟩
  have hS0 := hmk.out wd (Below.refl _ _)
  have ooH : Hid (OneCells [.string bn0, v01, v02, v03, v04, v05, v06] ∧ OneCells [.string bn1, v11, v12, v13, v14, v15, v16] ∧ OneCells [.string bn2, v21, v22, v23, v24, v25, v26]) := ⟨o0, o1, o2⟩
  have b4H : Hid (Below w.heap.size w wd) := b4
  clear g0 g1 g2 o0 o1 o2 l0 l1 l2 b4 n1' n2 b2
  go_region_held3 (fun W => Below wd.heap.size wd W ∧ W.cell? ⟨p1, 0, none⟩ = some (.string bn0) ∧ W.cell? ⟨p1, 1, none⟩ = some (v01) ∧ W.cell? ⟨p1, 2, none⟩ = some (v02) ∧ W.cell? ⟨p1, 3, none⟩ = some (v03) ∧ W.cell? ⟨p1, 4, none⟩ = some (v04) ∧ W.cell? ⟨p1, 5, none⟩ = some (v05) ∧ W.cell? ⟨p1, 6, none⟩ = some (v06) ∧ W.cell? ⟨p2, 0, none⟩ = some (.string bn1) ∧ W.cell? ⟨p2, 1, none⟩ = some (v11) ∧ W.cell? ⟨p2, 2, none⟩ = some (v12) ∧ W.cell? ⟨p2, 3, none⟩ = some (v13) ∧ W.cell? ⟨p2, 4, none⟩ = some (v14) ∧ W.cell? ⟨p2, 5, none⟩ = some (v15) ∧ W.cell? ⟨p2, 6, none⟩ = some (v16) ∧ W.cell? ⟨p4, 0, none⟩ = some (.string bn2) ∧ W.cell? ⟨p4, 1, none⟩ = some (v21) ∧ W.cell? ⟨p4, 2, none⟩ = some (v22) ∧ W.cell? ⟨p4, 3, none⟩ = some (v23) ∧ W.cell? ⟨p4, 4, none⟩ = some (v24) ∧ W.cell? ⟨p4, 5, none⟩ = some (v25) ∧ W.cell? ⟨p4, 6, none⟩ = some (v26)) (first | assumption | exact hmk.out _ (Below.drew (And.left (by assumption))) | exact hmk.out _ (below_on2 (And.left (by assumption)) (below_1 _ _)) | exact hmk.out _ (below_on2 (And.left (by assumption)) (by assumption))) (first | (go_at_call 77; refine (l2Error_calls _ _ _).mono ?_; rintro e wq ⟨⟨b, rfl⟩, hbq⟩))
  all_goals (
   go_wp2_with fail
   go_meet
   refine ⟨_, World.ownsRow_lit wq _ 4 ?_ (by unfold maxLen; omega) rfl, ⟨rfl, fun i hi => ?_⟩, ?_⟩
   ·have h1 := b4H.out.size
    have h2 : Below wd.heap.size wd wq := by first | assumption | exact below_on2 (Below.drew (Below.refl _ _)) hbq | exact below_on2 (Below.drew (Below.drew (Below.refl _ _))) hbq | exact below_on2 (And.left (by assumption)) hbq
    have := h2.size
    omega
   ·match i, hi with
    | 0, _ => rfl
    | 1, _ => rfl
    | 2, _ => rfl
    | 3, _ => rfl
   ·exact below_on2 (below_on2 b4H.out (by first | assumption | exact below_on2 (Below.drew (Below.refl _ _)) hbq | exact below_on2 (Below.drew (Below.drew (Below.refl _ _))) hbq | exact below_on2 (And.left (by assumption)) hbq)) (below_1 _ _))
 case rest =>
 obtain ⟨cells, hown, hhd, hbw⟩ := hcut
 rename World => we
 clear n1' n2 b2 g0 o0 l0 g1 o1 l1 g2 o2 l2 b4
 go_wp2
 go_loopw [5, 7] (fun v i wr => ∃ (m : Nat) (cs : List Value), m ≤ 10 ∧ i = .int .i64 m ∧ Hid (wr.ownsRow w.heap.size 49 7 v (4 + m) cs) ∧ Hid (Heads cs ([bn0, bn1, bn2, bn3] ++ bootErrs.take m)) ∧ Hid (wr.heap[we.heap.size]? = some (.cells (bootErrs.map Value.string).toArray 9 (0, 0))) ∧ Hid (Below w.heap.size w wr)) (fun _ i _ => 10 - (intOf i).toNat)
 case atStart => exact ⟨0, cells, Nat.zero_le _, rfl, hown.out.alloc _, hhd.out, heap_alloc_new we _, below_on2 hbw.out (below_1 _ _)⟩
 case round =>
  obtain ⟨m, cs, hm, rfl, ho, hh, hq, hb⟩ := hrel
  rename World => wr
  clear hown hhd hbw
  by_cases hlt : m < 10
  ·have hlt' : (m : Int) < 10 := by omega
   have hbl : m < bootErrs.length := hlt
   have hcell : wr.cell? ⟨we.heap.size, m, none⟩ = some (.string bootErrs[m]) := by
    simp [World.cell?, hq.out, hbl]
   have htk := List.take_append_getElem hbl
   obtain ⟨s, hs⟩ : ∃ s, s = bootErrs[m] := ⟨_, rfl⟩
   rw [← hs] at hcell htk
   have htkH : Hid (bootErrs.take m ++ [s] = bootErrs.take (m + 1)) := htk
   clear hs htk
   go_wp2_with (first
    | (go_at_call 77; refine (l2Error_calls _ _ _).mono ?_; rintro e wq ⟨⟨b, rfl⟩, hbq⟩; have ho1 := ho.out.kept (grown_below hbq) (Classical.em _))
    | (refine wpList_append_own _ rfl _ _ 26 rfl w.heap.size 49 i0 _ 7 136 Tryz.underlying26 hi0 hz0 hz1 hz2 rfl (by decide) _ (4 + m) cs rfl (ho1.alloc _) ⟨wq.heap.size, 0, none⟩ 1 1 [.string s, .string bn3, .slice none 0 0, .int .i64 0, .slice none 0 0, .slice none 0 0, .slice (some ⟨b, 0, none⟩) 1 1] rfl rfl (fun j u hu => cells_new wq _ 49 j u hu) (ones7 s bn3 b) (by unfold maxLen; omega) (by omega) (by have h1 := hb.out.size; have h2 := hbq.size; simp; omega) ?_; intro v' w' hown' hgrow hnil))
   go_roundw
   case rel =>
    have hqq := hq.out
    have hqlt := (Array.getElem?_eq_some_iff.1 hqq).1
    have hq1 : wq.heap[we.heap.size]? = some (.cells (bootErrs.map Value.string).toArray 9 (0, 0)) := (hbq.block _ hqlt).trans hqq
    have hq2 := (Below.heap_alloc wq (.cells #[.string s, .string bn3, .slice none 0 0, .int .i64 0, .slice none 0 0, .slice none 0 0, .slice (some ⟨b, 0, none⟩) 1 1] 49) _ (Array.getElem?_eq_some_iff.1 hq1).1).trans hq1
    have hbz : Below w.heap.size w (wq.alloc (.cells #[.string s, .string bn3, .slice none 0 0, .int .i64 0, .slice none 0 0, .slice none 0 0, .slice (some ⟨b, 0, none⟩) 1 1] 49)) := below_on2 (below_on2 hb.out hbq) (below_1 _ _)
    refine ⟨m + 1, _, by omega, by go_num, hown', ?_, other_block (ho1.alloc _) (by decide) hq2 hgrow, hbz.grown hgrow hbz.size (fun k hk => ((ho1.alloc (.cells #[.string s, .string bn3, .slice none 0 0, .int .i64 0, .slice none 0 0, .slice none 0 0, .slice (some ⟨b, 0, none⟩) 1 1] 49)).lt k hk).1)⟩
    show Heads _ _
    rw [← htkH.out, ← List.append_assoc]
    exact hh.out.snoc s _ _ _ _ _ _
   case measure => simp [intOf]; omega
  ·obtain rfl : m = 10 := by omega
   clear hlt
   have ho14 : Hid (wr.ownsRow w.heap.size 49 7 u5 14 cs) := ho.out
   have hh14 : Hid (Heads cs ([bn0, bn1, bn2, bn3] ++ bootErrs)) := hh.out
   clear ho hh hq
   go_upto_region 11 with fail
   go_cut [8] (fun s8 wc => ∃ p a0 a1 a2 a3 a4 a5 a6 a7 a8, s8 = .pointer (some ⟨p, 0, none⟩) ∧ Hid (MethAt wc p a0 a1 a2 a3 a4 a5 a6 a7 a8) ∧ Hid (wc.ownsRow w.heap.size 49 7 u5 14 cs) ∧ Hid (Below w.heap.size w wc))
   case first =>
    go_wp2_with (first
  | (go_at_call 73; refine (l2Return_calls _).mono ?_; rintro e wq ⟨rfl, hbq⟩)
  | (go_at_call 74; refine (l2Native_calls _ _ _ (by decide) (by decide) _).mono ?_; rintro e wq ⟨rfl, hbq⟩)
  | (go_at_call 75; refine (l2Load_calls _ _ _).mono ?_; rintro e wq ⟨rfl, hbq⟩)
  | (go_at_call 76; refine (l2Call_calls _ _ _ _ _).mono ?_; rintro e wq ⟨rfl, hbq⟩))
    go_meet
    refine ⟨_, _, _, _, _, _, _, _, _, _, rfl, MethAt.new _ _ _ _ _ _ _ _ _ _ _ (by simp) (by rfl), ?_, ?_⟩
    ·refine ho14.out.kept (grown_below ?_) (Classical.em _)
     (repeat (first | assumption | exact Below.refl _ _ | (refine below_on2 ?_ (below_1 _ _)) | (refine below_on2 ?_ (by assumption))))
    ·refine below_on2 hb.out ?_
     (repeat (first | assumption | exact Below.refl _ _ | (refine below_on2 ?_ (below_1 _ _)) | (refine below_on2 ?_ (by assumption))))
   case rest =>
   obtain ⟨p8, a0, a1, a2, a3, a4, a5, a6, a7, a8, rfl, hA, hoA, hbA⟩ := hcut
   rename World => wf
   clear ho14 hb
   go_upto_region 12 with fail
   go_cut [9] (fun s9 wc => ∃ p c0 c1 c2 c3 c4 c5 c6 c7 c8, s9 = .pointer (some ⟨p, 0, none⟩) ∧ Hid (MethAt wc p c0 c1 c2 c3 c4 c5 c6 c7 c8) ∧ Hid (MethAt wc p8 a0 a1 a2 a3 a4 a5 a6 a7 a8) ∧ Hid (wc.ownsRow w.heap.size 49 7 u5 14 cs) ∧ Hid (Below w.heap.size w wc))
   case first =>
    go_wp2_with (first
  | (go_at_call 73; refine (l2Return_calls _).mono ?_; rintro e wq ⟨rfl, hbq⟩)
  | (go_at_call 74; refine (l2Native_calls _ _ _ (by decide) (by decide) _).mono ?_; rintro e wq ⟨rfl, hbq⟩)
  | (go_at_call 75; refine (l2Load_calls _ _ _).mono ?_; rintro e wq ⟨rfl, hbq⟩)
  | (go_at_call 76; refine (l2Call_calls _ _ _ _ _).mono ?_; rintro e wq ⟨rfl, hbq⟩))
    go_meet
    refine ⟨_, _, _, _, _, _, _, _, _, _, rfl, MethAt.new _ _ _ _ _ _ _ _ _ _ _ (by simp) (by rfl), hA.out.call ?_, ?_, ?_⟩
    ·(repeat (first | assumption | exact Below.refl _ _ | (refine below_on2 ?_ (below_1 _ _)) | (refine below_on2 ?_ (by assumption))))
    ·refine hoA.out.kept (grown_below ?_) (Classical.em _)
     (repeat (first | assumption | exact Below.refl _ _ | (refine below_on2 ?_ (below_1 _ _)) | (refine below_on2 ?_ (by assumption))))
    ·refine below_on2 hbA.out ?_
     (repeat (first | assumption | exact Below.refl _ _ | (refine below_on2 ?_ (below_1 _ _)) | (refine below_on2 ?_ (by assumption))))
   case rest =>
   obtain ⟨p9, c0, c1, c2, c3, c4, c5, c6, c7, c8, rfl, hC, hA', hoC, hbC⟩ := hcut
   rename World => wg
   clear hA hoA hbA
   have hR0 : Reg w p8 p9 #[a0, a1, a2, a3, a4, a5, a6, a7, a8] #[c0, c1, c2, c3, c4, c5, c6, c7, c8] u5 14 cs wg := ⟨hbC.out, hA'.out.1, hC.out.1, hoC.out⟩
   have hOH : Hid (OneCells [a0, a1, a2, a3, a4, a5, a6, a7, a8] ∧ OneCells [c0, c1, c2, c3, c4, c5, c6, c7, c8]) := ⟨hA'.out.2, hC.out.2⟩
   have hmk : Hid (∀ W, Reg w p8 p9 #[a0, a1, a2, a3, a4, a5, a6, a7, a8] #[c0, c1, c2, c3, c4, c5, c6, c7, c8] u5 14 cs W → (Hid (Reg w p8 p9 #[a0, a1, a2, a3, a4, a5, a6, a7, a8] #[c0, c1, c2, c3, c4, c5, c6, c7, c8] u5 14 cs W) ∧ W.cell? ⟨p8, 0, none⟩ = some a0 ∧ W.cell? ⟨p8, 1, none⟩ = some a1 ∧ W.cell? ⟨p8, 2, none⟩ = some a2 ∧ W.cell? ⟨p8, 3, none⟩ = some a3 ∧ W.cell? ⟨p8, 4, none⟩ = some a4 ∧ W.cell? ⟨p8, 5, none⟩ = some a5 ∧ W.cell? ⟨p8, 6, none⟩ = some a6 ∧ W.cell? ⟨p8, 7, none⟩ = some a7 ∧ W.cell? ⟨p8, 8, none⟩ = some a8 ∧ W.cell? ⟨p9, 0, none⟩ = some c0 ∧ W.cell? ⟨p9, 1, none⟩ = some c1 ∧ W.cell? ⟨p9, 2, none⟩ = some c2 ∧ W.cell? ⟨p9, 3, none⟩ = some c3 ∧ W.cell? ⟨p9, 4, none⟩ = some c4 ∧ W.cell? ⟨p9, 5, none⟩ = some c5 ∧ W.cell? ⟨p9, 6, none⟩ = some c6 ∧ W.cell? ⟨p9, 7, none⟩ = some c7 ∧ W.cell? ⟨p9, 8, none⟩ = some c8)) := fun W hW => by
    have k0 := rangeAt_heap hW.hp
    have k1 := rangeAt_heap hW.hq
    simp only [World.rangeAt, Nat.zero_add] at k0 k1
    exact ⟨hW, k0 0 _ rfl, k0 1 _ rfl, k0 2 _ rfl, k0 3 _ rfl, k0 4 _ rfl, k0 5 _ rfl, k0 6 _ rfl, k0 7 _ rfl, k0 8 _ rfl, k1 0 _ rfl, k1 1 _ rfl, k1 2 _ rfl, k1 3 _ rfl, k1 4 _ rfl, k1 5 _ rfl, k1 6 _ rfl, k1 7 _ rfl, k1 8 _ rfl⟩
   have hS0 := hmk.out wg hR0
   clear hR0 hA' hC hoC hbC
   go_upto_region 13 with fail
   go_cut [5] (fun s5 wc => ∃ cells, Hid (wc.ownsRow w.heap.size 49 7 s5 15 cells) ∧ Hid (Heads cells ([bn0, bn1, bn2, bn3] ++ bootErrs ++ [bnT])) ∧ Hid (Below w.heap.size w wc))
   case first =>
    go_region_held3 (fun W => Hid (Reg w p8 p9 #[a0, a1, a2, a3, a4, a5, a6, a7, a8] #[c0, c1, c2, c3, c4, c5, c6, c7, c8] u5 14 cs W) ∧ W.cell? ⟨p8, 0, none⟩ = some a0 ∧ W.cell? ⟨p8, 1, none⟩ = some a1 ∧ W.cell? ⟨p8, 2, none⟩ = some a2 ∧ W.cell? ⟨p8, 3, none⟩ = some a3 ∧ W.cell? ⟨p8, 4, none⟩ = some a4 ∧ W.cell? ⟨p8, 5, none⟩ = some a5 ∧ W.cell? ⟨p8, 6, none⟩ = some a6 ∧ W.cell? ⟨p8, 7, none⟩ = some a7 ∧ W.cell? ⟨p8, 8, none⟩ = some a8 ∧ W.cell? ⟨p9, 0, none⟩ = some c0 ∧ W.cell? ⟨p9, 1, none⟩ = some c1 ∧ W.cell? ⟨p9, 2, none⟩ = some c2 ∧ W.cell? ⟨p9, 3, none⟩ = some c3 ∧ W.cell? ⟨p9, 4, none⟩ = some c4 ∧ W.cell? ⟨p9, 5, none⟩ = some c5 ∧ W.cell? ⟨p9, 6, none⟩ = some c6 ∧ W.cell? ⟨p9, 7, none⟩ = some c7 ∧ W.cell? ⟨p9, 8, none⟩ = some c8) (first | assumption | exact hmk.out _ (Reg.append (Hid.out (And.left (by assumption))) hgrow hkeep) | exact hmk.out _ (Reg.call (Hid.out (And.left (by assumption))) hbq) | exact hmk.out _ (Reg.call (Hid.out (And.left (by assumption))) (below_1 _ _)) | exact hmk.out _ (Reg.drew (Hid.out (And.left (by assumption))))) (first
     | (go_at_call 74; refine (l2Native_calls _ _ _ (by decide) (by decide) _).mono ?_; rintro e wq ⟨rfl, hbq⟩)
     | (refine wp_append_keep _ _ _ 26 rfl w.heap.size 49 i0 _ 7 136 Tryz.underlying26 hi0 hz0 hz1 hz2 rfl (by decide) _ 14 cs rfl (Reg.ho (Hid.out (And.left (by assumption)))) ⟨wq.heap.size + 1, 0, none⟩ 1 1 [.string bnT, .string bn0, .slice none 0 0, .int .i64 0, .slice none 0 0, .slice none 0 0, .slice (some ⟨wq.heap.size, 0, none⟩) 6 6] rfl rfl (fun j u hu => cells_newP _ _ _ 49 (by simp) j u hu) (onesG bnT bn0 0 wq.heap.size 6) (by unfold maxLen; omega) (by omega) (Below.size (Reg.hb (Hid.out (And.left (by assumption))))) ?_; intro v' w' hown' hgrow hkeep))
    all_goals (
     go_wp2_with fail
     go_meet
     refine ⟨_, hown', ?_, ?_⟩
     ·exact hh14.out.snoc bnT _ _ _ _ _ _
     ·exact Reg.hb (Hid.out (And.left (by assumption))))
   case rest =>
   obtain ⟨ds, ho15, hh15, hb15⟩ := hcut
   rename World => wh
   clear hS0 hmk hOH
   have hoq := ho15.out
   have hbz := hb15.out
   go_wp2_with (first
    | (go_at_call 74; refine (l2Native_calls _ _ _ (by decide) (by decide) _).mono ?_; rintro e wq ⟨rfl, hbq⟩; have hoq := World.ownsRow.kept hoq (grown_below hbq) (Classical.em _); have hbz := below_on2 hbz hbq)
    | (refine wpList_append_own _ rfl _ _ 26 rfl w.heap.size 49 i0 _ 7 136 Tryz.underlying26 hi0 hz0 hz1 hz2 rfl (by decide) _ 15 ds rfl ((hoq.alloc _).alloc _) ⟨wq.heap.size + 1, 0, none⟩ 1 1 [.string ⟨#[83, 121, 115, 116, 101, 109]⟩, .string bn0, .slice none 0 0, .int .i64 2, .slice none 0 0, .slice none 0 0, .slice (some ⟨wq.heap.size, 0, none⟩) 4 4] rfl rfl (fun j u hu => cells_newP _ _ _ 49 (by simp) j u hu) (onesG ⟨#[83, 121, 115, 116, 101, 109]⟩ bn0 2 wq.heap.size 4) (by unfold maxLen; omega) (by omega) (by have h1 := hbz.size; simp; omega) ?_; intro v' w' hown' hgrow hnil))
   go_ret
   refine ⟨⟨_, _, rfl, hown', ?_⟩, ?_⟩
   ·have h := hh15.out.snoc ⟨#[83, 121, 115, 116, 101, 109]⟩ (.string bn0) (.slice none 0 0) (.int .i64 2) (.slice none 0 0) (.slice none 0 0) (.slice (some ⟨wq.heap.size, 0, none⟩) 4 4)
    rw [List.append_assoc] at h
    exact h
   ·exact (below_on2 hbz (below_2B wq _ _)).grown hgrow (below_on2 hbz (below_2B wq _ _)).size (fun k hk => (hoq.lt k hk).1)
end Go.Proofs.YtjjccimeikkogaaGreatDoor
