import Derived.Test.YtjjccimeikkogaaGreatDoorLfA
import Derived.Test.YtjjccimeikkogaaGreatDoorLkV
set_option maxRecDepth 1000000
set_option maxHeartbeats 8000000
namespace Go.Proofs.YtjjccimeikkogaaGreatDoor
set_option linter.unusedVariables false
open Go.Maps Go.WideMaps
open Go.ChangeShapes Go.WideShapes Go.ChangeAt Go.RowKit Go.Shelf
attribute [local go_sem] Oper.semAt_some
theorem fuS (all : List ClassL) (n : List UInt8) : ∀ (pre : List Nat) (r : List Nat), fieldUp all n pre = none → fieldUp all n (pre ++ r) = fieldUp all n r
 | [], r, _ => rfl
 | k :: p, r, h => by
  rw [fieldUp] at h
  rw [List.cons_append, fieldUp]
  cases e : ((all[k]?).bind fun c => (fieldIn c.fields n).map fun f => (c.name, f)) with
  | some x => rw [e] at h; cases h
  | none => rw [e] at h; simp only at h ⊢; exact fuS all n p r h
theorem fuP {all : List ClassL} {n : List UInt8} : ∀ {pre R : List Nat} {x : ByteArray × FieldL}, fieldUp all n pre = some x → pre <+: R → fieldUp all n R = some x
 | [], R, x, h, _ => by cases h
 | k :: p, R, x, h, hp => by
  obtain ⟨r, rfl⟩ := hp
  rw [fieldUp] at h
  rw [List.cons_append, fieldUp]
  cases e : ((all[k]?).bind fun c => (fieldIn c.fields n).map fun f => (c.name, f)) with
  | some y => rw [e] at h; exact h
  | none => rw [e] at h; simp only at h ⊢; exact fuP h (List.prefix_append p r)
theorem fuO {all : List ClassL} {x : Nat} (hx : x < all.length) (n : List UInt8) : fieldUp all n [x] = (fieldIn all[x].fields n).map fun f => (all[x].name, f) := by
 rw [fieldUp, List.getElem?_eq_getElem hx]
 simp only [Option.bind_some]
 cases fieldIn all[x].fields n <;> rfl
structure FdW (W : World) (q5 q6 q7 : Nat) (nm cn : ByteArray) (fv : List Value) : Prop where
 x5 : W.heap[q5]? = some (.cells #[.string nm] 9 (0, 0))
 x6 : W.heap[q6]? = some (.cells #[.string cn] 9 (0, 0))
 x7 : W.heap[q7]? = some (.cells fv.toArray 36 (0, 0))
theorem FdW.lt {W : World} {q5 q6 q7 : Nat} {nm cn : ByteArray} {fv : List Value} (h : FdW W q5 q6 q7 nm cn fv) {k : Nat} (hk : k = q5 ∨ k = q6 ∨ k = q7) : k < W.heap.size := by
 rcases hk with rfl | rfl | rfl
 ·exact lt_of h.x5
 ·exact lt_of h.x6
 ·exact lt_of h.x7
theorem FdW.kept {W W' : World} {q5 q6 q7 : Nat} {nm cn : ByteArray} {fv : List Value} (h : FdW W q5 q6 q7 nm cn fv) (hk : ∀ k, k = q5 ∨ k = q6 ∨ k = q7 → W'.heap[k]? = W.heap[k]?) : FdW W' q5 q6 q7 nm cn fv :=
 ⟨(hk q5 (.inl rfl)).trans h.x5, (hk q6 (.inr (.inl rfl))).trans h.x6, (hk q7 (.inr (.inr rfl))).trans h.x7⟩
theorem FdW.start {w : World} {P : Nat} {s nm : ByteArray} {W3 : World}
  (h3 : ((((w.alloc (.cells #[.string nm] 9)).alloc (.cells #[.string ⟨#[]⟩] 9)).alloc (.cells #[.string ⟨#[]⟩, .string ⟨#[]⟩, .int .i64 0] 36)).alloc (.cells #[.pointer (some ⟨P, 0, none⟩)] 54)).alloc (.cells #[.string s] 9) = W3) :
  FdW W3 w.heap.size (w.heap.size + 1) (w.heap.size + 1 + 1) nm ⟨#[]⟩ zeroF ∧ Below w.heap.size w W3 ∧ W3.heap[w.heap.size + 1 + 1 + 1]? = some (.cells #[.pointer (some ⟨P, 0, none⟩)] 54 (0, 0)) ∧ W3.heap[w.heap.size + 1 + 1 + 1 + 1]? = some (.cells #[.string s] 9 (0, 0)) := by
 obtain ⟨a1, h1⟩ : ∃ a, w.alloc (.cells #[.string nm] 9) = a := ⟨_, rfl⟩
 rw [h1] at h3
 obtain ⟨a2, h2⟩ : ∃ a, a1.alloc (.cells #[.string ⟨#[]⟩] 9) = a := ⟨_, rfl⟩
 rw [h2] at h3
 obtain ⟨a3, h3'⟩ : ∃ a, a2.alloc (.cells #[.string ⟨#[]⟩, .string ⟨#[]⟩, .int .i64 0] 36) = a := ⟨_, rfl⟩
 rw [h3'] at h3
 obtain ⟨a4, h4⟩ : ∃ a, a3.alloc (.cells #[.pointer (some ⟨P, 0, none⟩)] 54) = a := ⟨_, rfl⟩
 rw [h4] at h3
 have s1 : a1.heap.size = w.heap.size + 1 := by rw [← h1]; simp
 have s2 : a2.heap.size = w.heap.size + 1 + 1 := by rw [← h2]; simp [s1]
 have s3 : a3.heap.size = w.heap.size + 1 + 1 + 1 := by rw [← h3']; simp [s2]
 have s4 : a4.heap.size = w.heap.size + 1 + 1 + 1 + 1 := by rw [← h4]; simp [s3]
 have b1 : Below w.heap.size w a1 := by rw [← h1]; exact below_1 _ _
 have b2 : Below a1.heap.size a1 a2 := by rw [← h2]; exact below_1 _ _
 have b3 : Below a2.heap.size a2 a3 := by rw [← h3']; exact below_1 _ _
 have b4 : Below a3.heap.size a3 a4 := by rw [← h4]; exact below_1 _ _
 have b5 : Below a4.heap.size a4 W3 := by rw [← h3]; exact below_1 _ _
 have n1 : a1.heap[w.heap.size]? = some (.cells #[.string nm] 9 (0, 0)) := by rw [← h1]; exact heap_alloc_new _ _
 have n2 : a2.heap[w.heap.size + 1]? = some (.cells #[.string ⟨#[]⟩] 9 (0, 0)) := by rw [← h2, ← s1]; exact heap_alloc_new _ _
 have n3 : a3.heap[w.heap.size + 1 + 1]? = some (.cells zeroF.toArray 36 (0, 0)) := by rw [← h3', ← s2]; exact heap_alloc_new _ _
 have n4 : a4.heap[w.heap.size + 1 + 1 + 1]? = some (.cells #[.pointer (some ⟨P, 0, none⟩)] 54 (0, 0)) := by rw [← h4, ← s3]; exact heap_alloc_new _ _
 have n5 : W3.heap[w.heap.size + 1 + 1 + 1 + 1]? = some (.cells #[.string s] 9 (0, 0)) := by rw [← h3, ← s4]; exact heap_alloc_new _ _
 refine ⟨⟨?_, ?_, ?_⟩, below_on2 (below_on2 (below_on2 (below_on2 b1 b2) b3) b4) b5, ?_, n5⟩
 ·rw [b5.block _ (by omega), b4.block _ (by omega), b3.block _ (by omega), b2.block _ (by omega)]; exact n1
 ·rw [b5.block _ (by omega), b4.block _ (by omega), b3.block _ (by omega)]; exact n2
 ·rw [b5.block _ (by omega), b4.block _ (by omega)]; exact n3
 ·rw [b5.block _ (by omega)]; exact n4
theorem rlC (w : World) (g : Nat) (v : Value) (hc : w.cell? ⟨g, 0, none⟩ = some v) : (loadVar 9 ⟨g, 0, none⟩).run Tryz.prog w = .ok v w := by
 simp [loadVar, isAgg, Sem.run_bind, run_underlying Tryz.underlying9, hc, go_sem]
theorem resCC {fn : Func} {p q : Tmp} {ty : TypeId} (h : fn.results = #[.cell p 9, .cell q ty]) (tmps : Array Value) (w : World) (g1 g2 : Nat) (v1 : Value) (cs : List Value) (d : TypeDesc)
  (hp : tmps.getD p undef = .pointer (some ⟨g1, 0, none⟩)) (hq : tmps.getD q undef = .pointer (some ⟨g2, 0, none⟩)) (h1 : w.cell? ⟨g1, 0, none⟩ = some v1) (hc : w.rangeAt g2 0 cs) (hu : Tryz.prog.underlying ty = some d) (hd : d.isRow = true) (hi : (Tryz.prog.info? ty).map (·.size) = some cs.length) :
  (results fn tmps).run Tryz.prog w = .ok (.tuple #[v1, .agg cs.toArray]) w := by
 have hp' : tmps[p]?.getD undef = .pointer (some ⟨g1, 0, none⟩) := by simpa using hp
 have hq' : tmps[q]?.getD undef = .pointer (some ⟨g2, 0, none⟩) := by simpa using hq
 simp [results, h, hp', hq', asAddr, rlC w g1 v1 h1, run_loadVar_mid w g2 0 ty cs d hc hu hd hi]
theorem FdW.put {W : World} {q5 q6 q7 : Nat} {nm cn0 : ByteArray} (h : FdW W q5 q6 q7 nm cn0 zeroF) (cn : ByteArray) (f : FieldL) (h56 : q5 < q6) (h67 : q6 < q7) :
  FdW ((((W.setCell ⟨q6, 0, none⟩ (.string cn)).setCell ⟨q7, 0, none⟩ (.string f.name)).setCell ⟨q7, 1, none⟩ (.string f.ty)).setCell ⟨q7, 2, none⟩ (.int .i64 f.flags)) q5 q6 q7 nm cn (fldV f) := by
 refine ⟨?_, ?_, ?_⟩
 ·rw [Below.heap_setCell _ _ _ _ (by simp only; omega), Below.heap_setCell _ _ _ _ (by simp only; omega), Below.heap_setCell _ _ _ _ (by simp only; omega), Below.heap_setCell _ _ _ _ (by simp only; omega)]; exact h.x5
 ·rw [Below.heap_setCell _ _ _ _ (by simp only; omega), Below.heap_setCell _ _ _ _ (by simp only; omega), Below.heap_setCell _ _ _ _ (by simp only; omega), set_same _ h.x6]; rfl
 ·have h0 : (W.setCell ⟨q6, 0, none⟩ (.string cn)).heap[q7]? = some (.cells zeroF.toArray 36 (0, 0)) := by rw [Below.heap_setCell _ _ _ _ (by simp only; omega)]; exact h.x7
  rw [set_same _ (set_same _ (set_same _ h0))]; rfl
theorem puK {T : Nat → Prop} (W : World) {q6 q7 : Nat} (a b c d : Value) (h6 : ¬ T q6) (h7 : ¬ T q7) : Keep T W ((((W.setCell ⟨q6, 0, none⟩ a).setCell ⟨q7, 0, none⟩ b).setCell ⟨q7, 1, none⟩ c).setCell ⟨q7, 2, none⟩ d) := by
 refine ⟨rfl, rfl, rfl, by simp [World.setCell], fun k hk => ?_⟩
 have n6 : k ≠ q6 := fun e => h6 (e ▸ hk)
 have n7 : k ≠ q7 := fun e => h7 (e ▸ hk)
 rw [Below.heap_setCell _ _ _ _ n7, Below.heap_setCell _ _ _ _ n7, Below.heap_setCell _ _ _ _ n7, Below.heap_setCell _ _ _ _ n6]
theorem puB {B : Nat} {w0 W : World} {q6 q7 : Nat} (a b c d : Value) (h : Below B w0 W) (h6 : B ≤ q6) (h7 : B ≤ q7) : Below B w0 ((((W.setCell ⟨q6, 0, none⟩ a).setCell ⟨q7, 0, none⟩ b).setCell ⟨q7, 1, none⟩ c).setCell ⟨q7, 2, none⟩ d) := (((h.setCell (p := ⟨q6, 0, none⟩) h6 _).setCell (p := ⟨q7, 0, none⟩) h7 _).setCell (p := ⟨q7, 1, none⟩) h7 _).setCell (p := ⟨q7, 2, none⟩) h7 _
theorem fieldOf_calls (s nm : ByteArray) (w : World) (nB P : Nat) (all : List ClassL) (av ov : Value) (M J0 R0 rc : Nat) (D : DataW Unit) (CE : Nat → Array Value) (hok : AllOk all) (hfl : ∀ x ∈ all, x.fields.length ≤ 1048576) (hd0 : ItD w nB P all av ov M J0 R0 rc D CE) (hs : s.size ≤ 1048576) :
  Calls Tryz.prog 39 #[.pointer (some ⟨P, 0, none⟩), .string s, .string nm] w fun e w' => e = .returned (fieldV (fieldUp all nm.toList (abvL all s.toList))) ∧ Below w.heap.size w w' := by
 have hd := hd0.up
 have hdW : Hid (∀ W', Below w.heap.size w W' → ItD W' w.heap.size P all av ov M J0 R0 rc D CE) := fun W' h => hd.kept h
 have hokH : Hid (AllOk all) := hok
 have hflH : Hid (∀ x ∈ all, x.fields.length ≤ 1048576) := hfl
 clear hd hd0 hok hfl
 refine (callsIn_wide (n := 3)).1 ?_
 refine callsIn_of_wp_marks Tryz.func39 rfl trivial ?_ rfl
 simp only [Tryz.ntmps39, List.size_toArray, List.length_cons, List.length_nil, Nat.reduceAdd, Nat.reduceSub, Array.replicate_succ, Array.replicate_zero, List.push_toArray, List.append_toArray, List.nil_append, List.cons_append]
 gi_wp2_with fail
 refine ⟨trivial, ?_⟩
 refine (callsIn_wide.2 (above_calls _ _ _)).mono ?_
 rintro e W3 ⟨rfl, rfl⟩
 gi_wp2
 have hst := FdW.start (w := w) (P := P) (s := s) (nm := nm) (W3 := ((((w.alloc (.cells #[.string nm] 9)).alloc (.cells #[.string ⟨#[]⟩] 9)).alloc (.cells #[.string ⟨#[]⟩, .string ⟨#[]⟩, .int .i64 0] 36)).alloc (.cells #[.pointer (some ⟨P, 0, none⟩)] 54)).alloc (.cells #[.string s] 9)) rfl
 generalize ((((w.alloc (.cells #[.string nm] 9)).alloc (.cells #[.string ⟨#[]⟩] 9)).alloc (.cells #[.string ⟨#[]⟩, .string ⟨#[]⟩, .int .i64 0] 36)).alloc (.cells #[.pointer (some ⟨P, 0, none⟩)] 54)).alloc (.cells #[.string s] 9) = W3 at *
 obtain ⟨hfd3, hb3, hx1, hx2⟩ := hst
 obtain ⟨q5, hq5⟩ : ∃ q, w.heap.size = q := ⟨_, rfl⟩
 obtain ⟨q6, hq6⟩ : ∃ q, q5 + 1 = q := ⟨_, rfl⟩
 obtain ⟨q7, hq7⟩ : ∃ q, q6 + 1 = q := ⟨_, rfl⟩
 obtain ⟨e1, he1⟩ : ∃ q, q7 + 1 = q := ⟨_, rfl⟩
 obtain ⟨e2, he2⟩ : ∃ q, e1 + 1 = q := ⟨_, rfl⟩
 simp only [hq5, hq6, hq7, he1, he2] at hfd3 hb3 hx1 hx2 hdW ⊢
 have hrH : Hid (Below q5 w W3 ∧ q5 < q6 ∧ q6 < q7 ∧ q7 < e1 ∧ e1 < e2) := ⟨hb3, by omega, by omega, by omega, by omega⟩
 have hd3 := hdW.out W3 hb3
 have hq5H : Hid (w.heap.size ≤ q5) := Nat.le_of_eq hq5
 clear hq5 hq6 hq7 he1 he2
 refine wpIn_range_fp (gf := 52) (lb := #[.pointer (some ⟨e1, 0, none⟩), .pointer (some ⟨e2, 0, none⟩)]) rfl (enters_of Tryz.func52 (by kernel_rfl) rfl)
  (encs := fun k : Nat => #[.agg (CE k)]) (xs := abvL all s.toList) (nB := q5) (Cx := fun k => k = e1 ∨ k = e2) (above_seq _ W3 q5 P all av ov M J0 R0 rc D CE e1 e2 s hokH.out hd3 hx1 hx2 hs) (fun _ => rfl) hd3.lt.2.2
  ?_ (fun F pre W => F = (fun k => k = q5 ∨ k = q6 ∨ k = q7) ∧ FdW W q5 q6 q7 nm ⟨#[]⟩ zeroF ∧ fieldUp all nm.toList pre = none)
  (fun c F pre W => c = .ret ∧ F = (fun k => k = q5 ∨ k = q6 ∨ k = q7) ∧ ∃ cn f, fieldUp all nm.toList pre = some (cn, f) ∧ FdW W q5 q6 q7 nm cn (fldV f)) ?_ ?_ ?_ (fun k => k = q5 ∨ k = q6 ∨ k = q7) ?_ ⟨rfl, hfd3, rfl⟩
  (fun x a' F pre W => ∃ b, q5 ≤ b ∧ F = (fun k => k = q5 ∨ k = q6 ∨ k = q7 ∨ k = b) ∧ FdW W q5 q6 q7 nm ⟨#[]⟩ zeroF ∧ fieldUp all nm.toList pre = none ∧ W.heap[b]? = some (.cells (CE x) 49 (0, 0)) ∧
   a' = { tmps := #[.pointer (some ⟨P, 0, none⟩), .string s, .string nm, undef, undef, .pointer (some ⟨q5, 0, none⟩), .pointer (some ⟨q6, 0, none⟩), .pointer (some ⟨q7, 0, none⟩), .pointer (some ⟨b, 0, none⟩), undef, undef, .pointer (some ⟨P, 0, none⟩), .string s, .func (.func 52) #[] #[.pointer (some ⟨e1, 0, none⟩), .pointer (some ⟨e2, 0, none⟩)], .agg (CE x), undef, undef, undef, undef, undef, undef, undef, undef, undef, undef, undef, undef, undef, undef, undef, undef], defers := [] }) ?_ ?assign ?body ?done ?stop
 ·rintro k (rfl | rfl)
  ·exact lt_of hx1
  ·exact lt_of hx2
 ·refine ⟨?_, ?_⟩
  ·rintro F pre W ⟨rfl, h, -⟩ k hk
   exact h.lt hk
  ·rintro F pre A B ⟨rfl, h, hu⟩ hk
   exact ⟨rfl, h.kept hk.block, hu⟩
 ·rintro F pre W ⟨rfl, h⟩ k hk
  have := hrH.out
  omega
 ·intro c
  refine ⟨?_, ?_⟩
  ·rintro F pre W ⟨rfl, rfl, cn, f, hu, h⟩ k hk
   exact h.lt hk
  ·rintro F pre A B ⟨rfl, rfl, cn, f, hu, h⟩ hk
   exact ⟨rfl, rfl, cn, f, hu, h.kept hk.block⟩
 ·intro k hk
  have := hrH.out
  omega
 ·intro x a'
  refine ⟨?_, ?_⟩
  ·rintro F pre W ⟨b, hb, rfl, h, hu, hx, rfl⟩ k hk
   rcases hk with hk | hk | hk | rfl
   ·exact h.lt (.inl hk)
   ·exact h.lt (.inr (.inl hk))
   ·exact h.lt (.inr (.inr hk))
   ·exact lt_of hx
  ·rintro F pre A B ⟨b, hb, rfl, h, hu, hx, rfl⟩ hk
   refine ⟨b, hb, rfl, h.kept fun k q => hk.block k ?_, hu, (hk.block b (.inr (.inr (.inr rfl)))).trans hx, rfl⟩
   rcases q with q | q | q
   ·exact .inl q
   ·exact .inr (.inl q)
   ·exact .inr (.inr (.inl q))
 case assign =>
  rintro l F pre x W ⟨rfl, hfd, hup⟩ hbw hpre K hK
  have hx : x < all.length := (abvL_row all s.toList).lt x (hpre.subset (by simp))
  have hcs := ((hdW.out W (hrH.out.1.trans hbw)).ce x hx).ex
  have hrdH : Hid (FdW W q5 q6 q7 nm ⟨#[]⟩ zeroF ∧ q5 ≤ W.heap.size ∧ fieldUp all nm.toList pre = none) := ⟨hfd, by have := hfd.lt (.inl rfl); omega, hup⟩
  have hKH : Hid (∀ F' a' W', (∃ b, q5 ≤ b ∧ F' = (fun k => k = q5 ∨ k = q6 ∨ k = q7 ∨ k = b) ∧ FdW W' q5 q6 q7 nm ⟨#[]⟩ zeroF ∧ fieldUp all nm.toList pre = none ∧ W'.heap[b]? = some (.cells (CE x) 49 (0, 0)) ∧
   a' = { tmps := #[.pointer (some ⟨P, 0, none⟩), .string s, .string nm, undef, undef, .pointer (some ⟨q5, 0, none⟩), .pointer (some ⟨q6, 0, none⟩), .pointer (some ⟨q7, 0, none⟩), .pointer (some ⟨b, 0, none⟩), undef, undef, .pointer (some ⟨P, 0, none⟩), .string s, .func (.func 52) #[] #[.pointer (some ⟨e1, 0, none⟩), .pointer (some ⟨e2, 0, none⟩)], .agg (CE x), undef, undef, undef, undef, undef, undef, undef, undef, undef, undef, undef, undef, undef, undef, undef, undef], defers := [] }) → Stp (fun k => k = q5 ∨ k = q6 ∨ k = q7) F' W W' → K a' W') := hK
  clear hK hfd hup hx1 hx2 hfd3 hb3 hd3
  obtain ⟨p, q, sv, tv, hCE, hp, hq, hs5, ht6⟩ := hcs
  obtain ⟨pa, pc, rfl⟩ := hp.form
  obtain ⟨qa, qc, rfl⟩ := hq.form
  obtain ⟨sa, sc, rfl⟩ := hs5.form
  obtain ⟨ta, tc, rfl⟩ := ht6.form
  clear hp hq hs5 ht6
  have hCEH : Hid (CE x = _) := hCE
  simp only [hCE]
  clear hCE
  generalize (all[x]'hx).name = xn at *
  generalize (all[x]'hx).super = xs at *
  generalize (all[x]'hx).flags = xf at *
  generalize (all[x]'hx).ifs.length = np at *
  generalize (all[x]'hx).perms.length = nq at *
  generalize (all[x]'hx).fields.length = ns at *
  generalize (all[x]'hx).meths.length = nt at *
  gi_wp2
  refine hKH.out (fun k => k = q5 ∨ k = q6 ∨ k = q7 ∨ k = W.heap.size) _ _ ⟨W.heap.size, hrdH.out.2.1, rfl, hrdH.out.1.kept fun k hk => Below.heap_alloc W _ k (hrdH.out.1.lt hk), hrdH.out.2.2, ?_, ?_⟩ ⟨keep_alloc W _ fun k q => q.1, fun k q => ?_⟩
  ·rw [hCEH.out]; exact heap_alloc_new W _
  ·rw [hCEH.out]
  ·rcases q with q | q | q | q
   ·exact .inl (.inl q)
   ·exact .inl (.inr (.inl q))
   ·exact .inl (.inr (.inr q))
   ·exact .inr (by omega)
 case body =>
  rintro l F pre x a' W ⟨b, hb, rfl, hfd, hup, hbx, rfl⟩ hbw hpre
  have hx : x < all.length := (abvL_row all s.toList).lt x (hpre.subset (by simp))
  have hdw := hdW.out W (hrH.out.1.trans hbw)
  have hcs := (hdw.ce x hx).ex
  obtain ⟨p, q, sv, tv, hCE, hp, hq, hs5, ht6⟩ := hcs
  have hup1 := fuS all nm.toList pre [x] hup
  rw [fuO hx] at hup1
  have hup1H : Hid (fieldUp all nm.toList (pre ++ [x]) = (fieldIn all[x].fields nm.toList).map fun f => (all[x].name, f)) := hup1
  have hnf : all[x].fields.length ≤ 1048576 := hflH.out _ (List.getElem_mem hx)
  have hfdH : Hid (FdW W q5 q6 q7 nm ⟨#[]⟩ zeroF ∧ q5 ≤ W.heap.size ∧ (b ≠ q5 ∧ b ≠ q6 ∧ b ≠ q7) ∧ b < W.heap.size ∧ W.heap[b]? = some (.cells (CE x) 49 (0, 0))) :=
   ⟨hfd, by have := hfd.lt (.inl rfl); omega, ⟨tag_ne hbx hfd.x5 (by decide), tag_ne hbx hfd.x6 (by decide), tag_ne hbx hfd.x7 (by decide)⟩, lt_of hbx, hbx⟩
  obtain ⟨pa, pc, rfl⟩ := hp.form
  obtain ⟨qa, qc, rfl⟩ := hq.form
  obtain ⟨sa, sc, rfl⟩ := hs5.form
  obtain ⟨ta, tc, rfl⟩ := ht6.form
  have hs5H : Hid (LstK FldK 3 q5 W (.slice sa all[x].fields.length sc) all[x].fields) := hs5
  rw [hCE] at hfdH hbx
  generalize all[x] = X at *
  have k5 : W.cell? ⟨b, 5, none⟩ = some (.slice sa X.fields.length sc) := by simp [World.cell?, hbx]
  simp only [hCE]
  clear hp hq hs5 ht6 hCE hfd hup hbx hdw hup1 hx1 hx2 hfd3 hb3 hd3
  gi_wp2
  gi_loopw [18] (fun i wr => ∃ j : Nat, i = .int .i64 j ∧ j ≤ X.fields.length ∧ Hid (Below W.heap.size W wr ∧ fieldIn (X.fields.drop j) nm.toList = fieldIn X.fields nm.toList)) (fun i _ => X.fields.length - (intOf i).toNat)
  case atStart => exact ⟨0, rfl, Nat.zero_le _, Below.refl _ _, by rw [List.drop_zero]⟩
  case round =>
   rename World => wr
   obtain ⟨j, rfl, hj, hS⟩ := hrel
   by_cases hjl : j < X.fields.length
   ·have hjI : (j : Int) < (X.fields.length : Int) := by omega
    have hl5 : LstK FldK 3 q5 wr (.slice sa X.fields.length sc) X.fields := LstK.kept FldK.kept hs5H.out (Nat.le_refl _) (Same.below (hS.out.1.mono hfdH.out.2.1))
    obtain ⟨fb, fo, row, rfl, hfB, hrl, hrg, hrow⟩ := hl5.at j hjl
    have hfs := fiD hjl nm.toList
    rw [hS.out.2] at hfs
    obtain rfl : row = [.string X.fields[j].name, .string X.fields[j].ty, .int .i64 X.fields[j].flags] := hrow
    generalize X.fields[j] = f at *
    have f0 := hrg 0 _ rfl
    have f1 := hrg 1 _ rfl
    have f2 := hrg 2 _ rfl
    rw [Nat.add_zero] at f0
    have hfw : FdW wr q5 q6 q7 nm ⟨#[]⟩ zeroF := hfdH.out.1.kept fun k hk => hS.out.1.block k (hfdH.out.1.lt hk)
    have hz : ∀ {a : Addr} {v : Value} {o : Obj}, wr.cell? a = some v → (wr.alloc o).cell? a = some v := fun {a v o} h => (World.grownBy_alloc wr _ none).cell h (by simp)
    have c5 : (wr.alloc (.cells #[.string f.name, .string f.ty, .int .i64 f.flags] 36)).cell? ⟨q5, 0, none⟩ = some (.string nm) := hz (by simp [World.cell?, hfw.x5])
    clear hrl hrg hfB hl5
    cases he : (f.name.toList == nm.toList) with
    | true =>
     have hbw1 : wr.heap[b]? = _ := (hS.out.1.block b hfdH.out.2.2.2.1).trans hfdH.out.2.2.2.2
     have c0 : (wr.alloc (.cells #[.string f.name, .string f.ty, .int .i64 f.flags] 36)).cell? ⟨b, 0, none⟩ = some (.string X.name) := hz (by simp [World.cell?, hbw1])
     have c6 : (wr.alloc (.cells #[.string f.name, .string f.ty, .int .i64 f.flags] 36)).cell? ⟨q6, 0, none⟩ = some (.string ⟨#[]⟩) := hz (by simp [World.cell?, hfw.x6])
     have c70 : (wr.alloc (.cells #[.string f.name, .string f.ty, .int .i64 f.flags] 36)).cell? ⟨q7, 0, none⟩ = some (.string ⟨#[]⟩) := hz (by simp [World.cell?, hfw.x7, zeroF])
     have c71 : (wr.alloc (.cells #[.string f.name, .string f.ty, .int .i64 f.flags] 36)).cell? ⟨q7, 1, none⟩ = some (.string ⟨#[]⟩) := hz (by simp [World.cell?, hfw.x7, zeroF])
     have c72 : (wr.alloc (.cells #[.string f.name, .string f.ty, .int .i64 f.flags] 36)).cell? ⟨q7, 2, none⟩ = some (.int .i64 0) := hz (by simp [World.cell?, hfw.x7, zeroF])
     have hfr : ∀ {a : Addr} {o : Obj}, a.block < wr.heap.size → wr.frozen? a = false → (wr.alloc o).frozen? a = false := fun {a o} hl h => ((below_1 wr o).frozen hl).trans h
     have g6 : (wr.alloc (.cells #[.string f.name, .string f.ty, .int .i64 f.flags] 36)).frozen? ⟨q6, 0, none⟩ = false := hfr (lt_of hfw.x6) (by simp [World.frozen?, hfw.x6])
     have g70 : (wr.alloc (.cells #[.string f.name, .string f.ty, .int .i64 f.flags] 36)).frozen? ⟨q7, 0, none⟩ = false := hfr (lt_of hfw.x7) (by simp [World.frozen?, hfw.x7])
     have g71 : (wr.alloc (.cells #[.string f.name, .string f.ty, .int .i64 f.flags] 36)).frozen? ⟨q7, 1, none⟩ = false := hfr (lt_of hfw.x7) (by simp [World.frozen?, hfw.x7])
     have g72 : (wr.alloc (.cells #[.string f.name, .string f.ty, .int .i64 f.flags] 36)).frozen? ⟨q7, 2, none⟩ = false := hfr (lt_of hfw.x7) (by simp [World.frozen?, hfw.x7])
     have n67 : q6 ≠ q7 := by have := hrH.out; omega
     have n76 : q7 ≠ q6 := by have := hrH.out; omega
     have hwN : Hid (Below W.heap.size W (wr.alloc (.cells #[.string f.name, .string f.ty, .int .i64 f.flags] 36)) ∧ (wr.alloc (.cells #[.string f.name, .string f.ty, .int .i64 f.flags] 36)).heap[wr.heap.size]? = some (.cells #[.string f.name, .string f.ty, .int .i64 f.flags] 36 (0, 0))) := ⟨hS.out.1.alloc hS.out.1.size _, heap_alloc_new wr _⟩
     gi_wp2
     obtain ⟨wB, hwB⟩ : ∃ wB, wr.heap.size = wB := ⟨_, rfl⟩
     generalize wr.alloc (.cells #[.string f.name, .string f.ty, .int .i64 f.flags] 36) = W5 at *
     rw [hwB] at hwN ⊢
     have b0 : W5.cell? ⟨wB, 0, none⟩ = some (.string f.name) := by simp [World.cell?, hwN.out.2]
     have b1 : W5.cell? ⟨wB, 1, none⟩ = some (.string f.ty) := by simp [World.cell?, hwN.out.2]
     have b2 : W5.cell? ⟨wB, 2, none⟩ = some (.int .i64 f.flags) := by simp [World.cell?, hwN.out.2]
     have nB6 : wB ≠ q6 := tag_ne hwN.out.2 (hfdH.out.1.kept fun k hk => hwN.out.1.block k (hfdH.out.1.lt hk)).x6 (by decide)
     have hyes : fieldUp all nm.toList (pre ++ [x]) = some (X.name, f) := by
      rw [hup1H.out, hfs, if_pos (by simpa using he)]; rfl
     have hf5 : FdW W5 q5 q6 q7 nm ⟨#[]⟩ zeroF := hfdH.out.1.kept fun k hk => hwN.out.1.block k (hfdH.out.1.lt hk)
     have hfin : Hid (∃ F', (Code.ret = .ret ∧ F' = (fun k => k = q5 ∨ k = q6 ∨ k = q7) ∧ ∃ cn' f', fieldUp all nm.toList (pre ++ [x]) = some (cn', f') ∧ FdW ((((W5.setCell ⟨q6, 0, none⟩ (.string X.name)).setCell ⟨q7, 0, none⟩ (.string f.name)).setCell ⟨q7, 1, none⟩ (.string f.ty)).setCell ⟨q7, 2, none⟩ (.int .i64 f.flags)).drew q5 q6 q7 nm cn' (fldV f')) ∧ Stp (fun k => k = q5 ∨ k = q6 ∨ k = q7 ∨ k = b) F' W ((((W5.setCell ⟨q6, 0, none⟩ (.string X.name)).setCell ⟨q7, 0, none⟩ (.string f.name)).setCell ⟨q7, 1, none⟩ (.string f.ty)).setCell ⟨q7, 2, none⟩ (.int .i64 f.flags)).drew) := by
      have hk := puK (T := fun k => k < W.heap.size ∧ ¬ (k = q5 ∨ k = q6 ∨ k = q7 ∨ k = b)) W5 (q6 := q6) (q7 := q7) (.string X.name) (.string f.name) (.string f.ty) (.int .i64 f.flags) (fun q => q.2 (.inr (.inl rfl))) (fun q => q.2 (.inr (.inr (.inl rfl))))
      refine ⟨_, ⟨rfl, rfl, X.name, f, hyes, (hf5.put X.name f hrH.out.2.1 hrH.out.2.2.1).kept fun k _ => rfl⟩, ⟨?_, fun k hk => ?_⟩⟩
      ·have h1 : Keep (fun k => k < W.heap.size ∧ ¬ (k = q5 ∨ k = q6 ∨ k = q7 ∨ k = b)) W W5 := ⟨hwN.out.1.os, hwN.out.1.tape, hwN.out.1.output, hwN.out.1.size, fun k hk => hwN.out.1.block k hk.1⟩
       have h2 := h1.trans hk
       exact ⟨h2.os, h2.tape, h2.output, h2.size, h2.block⟩
      ·rcases hk with hk | hk | hk
       ·exact .inl (.inl hk)
       ·exact .inl (.inr (.inl hk))
       ·exact .inl (.inr (.inr (.inl hk)))
     clear hfr hz hfw hbw1 hfs hwB hyes hf5
     gi_region
     all_goals gi_wp2
     all_goals (obtain ⟨F', ⟨-, h1⟩, h2⟩ := hfin.out; exact ⟨F', ⟨rfl, h1⟩, h2⟩)
    | false =>
     have hFn : Hid (fieldIn (X.fields.drop (j + 1)) nm.toList = fieldIn X.fields nm.toList) := by
      show _ = _
      rw [hfs, if_neg (by simpa using he)]
     have hbn : Hid (Below W.heap.size W (wr.alloc (.cells #[.string f.name, .string f.ty, .int .i64 f.flags] 36))) := hS.out.1.alloc hS.out.1.size _
     clear hfs hfw hz
     gi_wp2
     refine ⟨⟨j + 1, by simp, by omega, hbn.out, hFn.out⟩, ?_⟩
     show X.fields.length - ((j : Int) + 1).toNat < X.fields.length - (j : Int).toNat
     omega
   ·have hjI : ¬ ((j : Int) < (X.fields.length : Int)) := by omega
    have hnone : fieldUp all nm.toList (pre ++ [x]) = none := by
     have := hS.out.2
     rw [List.drop_eq_nil_of_le (by omega)] at this
     rw [hup1H.out, ← this]; rfl
    have hfin : Hid (∃ F', (F' = (fun k => k = q5 ∨ k = q6 ∨ k = q7) ∧ FdW wr q5 q6 q7 nm ⟨#[]⟩ zeroF ∧ fieldUp all nm.toList (pre ++ [x]) = none) ∧ Stp (fun k => k = q5 ∨ k = q6 ∨ k = q7 ∨ k = b) F' W wr) := by
     refine ⟨_, ⟨rfl, hfdH.out.1.kept fun k hk => hS.out.1.block k (hfdH.out.1.lt hk), hnone⟩, ⟨⟨hS.out.1.os, hS.out.1.tape, hS.out.1.output, hS.out.1.size, fun k hk => hS.out.1.block k hk.1⟩, fun k hk => ?_⟩⟩
     rcases hk with hk | hk | hk
     ·exact .inl (.inl hk)
     ·exact .inl (.inr (.inl hk))
     ·exact .inl (.inr (.inr (.inl hk)))
    gi_wp2
    exact hfin.out
 case done =>
  rintro D' F W ⟨rfl, hfd, hup⟩ hbw hD hk hnD
  have c6 : W.cell? ⟨q6, 0, none⟩ = some (.string ⟨#[]⟩) := by simp [World.cell?, hfd.x6]
  have c70 : W.cell? ⟨q7, 0, none⟩ = some (.string ⟨#[]⟩) := by simp [World.cell?, hfd.x7, zeroF]
  have c71 : W.cell? ⟨q7, 1, none⟩ = some (.string ⟨#[]⟩) := by simp [World.cell?, hfd.x7, zeroF]
  have c72 : W.cell? ⟨q7, 2, none⟩ = some (.int .i64 0) := by simp [World.cell?, hfd.x7, zeroF]
  have g6 : W.frozen? ⟨q6, 0, none⟩ = false := by simp [World.frozen?, hfd.x6]
  have g70 : W.frozen? ⟨q7, 0, none⟩ = false := by simp [World.frozen?, hfd.x7]
  have g71 : W.frozen? ⟨q7, 1, none⟩ = false := by simp [World.frozen?, hfd.x7]
  have g72 : W.frozen? ⟨q7, 2, none⟩ = false := by simp [World.frozen?, hfd.x7]
  have n67 : q6 ≠ q7 := by have := hrH.out; omega
  have n76 : q7 ≠ q6 := by have := hrH.out; omega
  have hA : fieldUp all nm.toList (abvL all s.toList) = none := hup
  have hput := hfd.put ⟨#[]⟩ ⟨⟨#[]⟩, ⟨#[]⟩, 0⟩ hrH.out.2.1 hrH.out.2.2.1
  have hwp := puB (.string ⟨#[]⟩) (.string ⟨#[]⟩) (.string ⟨#[]⟩) (.int .i64 0) (hrH.out.1.trans hbw) (q6 := q6) (q7 := q7) (by have := hrH.out; omega) (by have := hrH.out; omega)
  have hkD : ((((W.setCell ⟨q6, 0, none⟩ (.string ⟨#[]⟩)).setCell ⟨q7, 0, none⟩ (.string ⟨#[]⟩)).setCell ⟨q7, 1, none⟩ (.string ⟨#[]⟩)).setCell ⟨q7, 2, none⟩ (.int .i64 0)).heap[D']? = some (.deferred (some [])) := ((puK (T := fun k => k = D') W (.string ⟨#[]⟩) (.string ⟨#[]⟩) (.string ⟨#[]⟩) (.int .i64 0) (fun q => hnD (.inr (.inl q.symm))) (fun q => hnD (.inr (.inr q.symm)))).block D' rfl).trans hk
  gi_wp2
  refine ⟨by simp, .inl ⟨_, _, rfl, run_takeDeferred hkD, ?_⟩⟩
  have p6 := (World.putObj_heap_other (w := (((W.setCell ⟨q6, 0, none⟩ (.string ⟨#[]⟩)).setCell ⟨q7, 0, none⟩ (.string ⟨#[]⟩)).setCell ⟨q7, 1, none⟩ (.string ⟨#[]⟩)).setCell ⟨q7, 2, none⟩ (.int .i64 0)) (o := .deferred none) (fun e : q6 = D' => hnD (.inr (.inl e.symm)))).trans hput.x6
  have p7 := (World.putObj_heap_other (w := (((W.setCell ⟨q6, 0, none⟩ (.string ⟨#[]⟩)).setCell ⟨q7, 0, none⟩ (.string ⟨#[]⟩)).setCell ⟨q7, 1, none⟩ (.string ⟨#[]⟩)).setCell ⟨q7, 2, none⟩ (.int .i64 0)) (o := .deferred none) (fun e : q7 = D' => hnD (.inr (.inr e.symm)))).trans hput.x7
  exact ⟨_, resCC rfl _ _ q6 q7 (.string ⟨#[]⟩) zeroF _ rfl rfl (by simp [World.cell?, p6]) (rangeAt_heap p7) Tryz.underlying36 rfl (by kernel_rfl), by first | rfl | (rw [hA]; rfl), (hwp.trans (below_putObj _ _ _ hD)).mono hq5H.out⟩
 case stop =>
  rintro D' c F pre W hpre ⟨rfl, rfl, cn, f, hu, hfd⟩ hbw hD hk hnD
  have hA : fieldUp all nm.toList (abvL all s.toList) = some (cn, f) := fuP hu hpre
  have p6 := (World.putObj_heap_other (w := W) (o := .deferred none) (fun e : q6 = D' => hnD (.inr (.inl e.symm)))).trans hfd.x6
  have p7 := (World.putObj_heap_other (w := W) (o := .deferred none) (fun e : q7 = D' => hnD (.inr (.inr e.symm)))).trans hfd.x7
  gi_wp2
  refine ⟨by simp, .inl ⟨_, _, rfl, run_takeDeferred hk, ?_⟩⟩
  exact ⟨_, resCC rfl _ _ q6 q7 (.string cn) (fldV f) _ rfl rfl (by simp [World.cell?, p6]) (rangeAt_heap p7) Tryz.underlying36 rfl (by kernel_rfl), by first | rfl | (rw [hA]; rfl), ((hrH.out.1.trans hbw).trans (below_putObj _ _ _ hD)).mono hq5H.out⟩
end Go.Proofs.YtjjccimeikkogaaGreatDoor
