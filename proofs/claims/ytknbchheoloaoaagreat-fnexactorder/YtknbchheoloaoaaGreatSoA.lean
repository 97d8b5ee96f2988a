/- Rows that a call owns, as a family; the states of a litmus test in memory. -/
import Derived.Test.YtknbchheoloaoaaGreatRg
import Derived.Test.YtknbchheoloaoaaGreatLs
import Derived.Laws.OwnMore
import Derived.Maps.AppendAt
import Derived.ArgAppend
import Derived.Test.YtknbchheoloaoaaGreatLtD
namespace Go.Proofs.YtknbchheoloaoaaGreat
set_option linter.unusedVariables false
open Go.ChangeShapes Go.WideShapes Go.ChangeAt Go.RowKit

structure RowD where
 e : TypeId
 v : Value
 xs : List Value
def RowD.held (B : Nat) (w : World) (r : RowD) : Prop := w.ownsRow B r.e 1 r.v r.xs.length r.xs
theorem own_kept {w w' : World} {base : Nat} {e : TypeId} {size : Nat} {v : Value} {n : Nat} {xs : List Value} (h : w.ownsRow base e size v n xs) (hk : ∀ g, v.ownBlock = some g → w'.heap[g]? = w.heap[g]?) : w'.ownsRow base e size v n xs := by
 refine ⟨h.1, ?_⟩
 rcases h.2 with h' | ⟨g, cap, cur, rfl, hb, hg, h1, h2, h3, h4⟩
 ·exact .inl h'
 ·exact .inr ⟨g, cap, cur, rfl, hb, by rw [hk g rfl]; exact hg, h1, h2, h3, h4⟩
theorem own_mono {w : World} {base base' : Nat} {e : TypeId} {size : Nat} {v : Value} {n : Nat} {xs : List Value} (h : w.ownsRow base e size v n xs) (hb : base' ≤ base) : w.ownsRow base' e size v n xs := by
 refine ⟨h.1, ?_⟩
 rcases h.2 with h' | ⟨g, cap, cur, rfl, hg, rest⟩
 ·exact .inl h'
 ·exact .inr ⟨g, cap, cur, rfl, by omega, rest⟩
theorem own_from {w : World} {base base' : Nat} {e : TypeId} {size : Nat} {v : Value} {n : Nat} {xs : List Value} (h : w.ownsRow base e size v n xs) (hb : ∀ g, v.ownBlock = some g → base' ≤ g) : w.ownsRow base' e size v n xs := by
 refine ⟨h.1, ?_⟩
 rcases h.2 with h' | ⟨g, cap, cur, rfl, hg, rest⟩
 ·exact .inl h'
 ·exact .inr ⟨g, cap, cur, rfl, hb g rfl, rest⟩
theorem own_below {w w' : World} {B base : Nat} {e : TypeId} {size : Nat} {v : Value} {n : Nat} {xs : List Value} (h : w.ownsRow base e size v n xs) (hb : Below B w w') (hlt : ∀ g, v.ownBlock = some g → g < B) : w'.ownsRow base e size v n xs :=
 own_kept h fun g hg => hb.block g (hlt g hg)
theorem own_form {w : World} {base : Nat} {e : TypeId} {size : Nat} {v : Value} {n : Nat} {xs : List Value} (h : w.ownsRow base e size v n xs) : ∃ a c, v = .slice a n c := by
 rcases h.2 with ⟨rfl, rfl⟩ | ⟨g, cap, cur, rfl, _⟩
 ·exact ⟨_, _, rfl⟩
 ·exact ⟨_, _, rfl⟩
theorem own_some {w : World} {base : Nat} {e : TypeId} {size : Nat} {v : Value} {n : Nat} {xs : List Value} (h : w.ownsRow base e size v n xs) (hn : 0 < n) : ∃ g c, v = .slice (some ⟨g, 0, none⟩) n c := by
 rcases h.2 with ⟨rfl, rfl⟩ | ⟨g, cap, cur, rfl, _⟩
 ·omega
 ·exact ⟨_, _, rfl⟩
theorem own_cap {w : World} {base : Nat} {e : TypeId} {size : Nat} {a : Option Addr} {n c : Nat} {m : Nat} {xs : List Value} (h : w.ownsRow base e size (.slice a m c) n xs) : m ≤ c := by
 rcases h.2 with ⟨h1, h2⟩ | ⟨g, cap, cur, h1, _, _, h3, _⟩
 ·injection h1 with _ e1 e2; omega
 ·injection h1 with _ e1 e2; omega
theorem own_len {w : World} {base : Nat} {e : TypeId} {v : Value} {n : Nat} {xs : List Value} (h : w.ownsRow base e 1 v n xs) : xs.length = n := by have := h.1; omega

def Held (B : Nat) (w : World) (R : List RowD) : Prop := ∀ r ∈ R, r.held B w
def ApartR (R : List RowD) : Prop := R.Pairwise fun r q => ∀ g, r.v.ownBlock = some g → q.v.ownBlock ≠ some g
theorem RowD.held.lt {B : Nat} {w : World} {r : RowD} (h : r.held B w) {g : Nat} (hg : r.v.ownBlock = some g) : B ≤ g ∧ g < w.heap.size := World.ownsRow.lt h g hg
theorem Held.below {B : Nat} {w w' : World} {R : List RowD} (h : Held B w R) (hb : Below w.heap.size w w') : Held B w' R := fun r hr => own_below (h r hr) hb fun g hg => (RowD.held.lt (h r hr) hg).2
theorem Held.mono {B B' : Nat} {w : World} {R : List RowD} (h : Held B w R) (hb : B' ≤ B) : Held B' w R := fun r hr => own_mono (h r hr) hb
theorem Held.append {B : Nat} {w : World} {R S : List RowD} (h : Held B w R) (k : Held B w S) : Held B w (R ++ S) := fun r hr => by
 rcases List.mem_append.1 hr with hr | hr
 ·exact h r hr
 ·exact k r hr
theorem apart_get {R : List RowD} (h : ApartR R) {i j : Nat} (hi : i < R.length) (hj : j < R.length) (hne : i ≠ j) {g : Nat} (hg : R[i].v.ownBlock = some g) : R[j].v.ownBlock ≠ some g := by
 rcases Nat.lt_or_ge i j with h' | h'
 ·exact List.pairwise_iff_getElem.1 h i j hi hj h' g hg
 ·intro e
  exact List.pairwise_iff_getElem.1 h j i hj hi (by omega) g e hg
theorem apart_of {R : List RowD} (h : ∀ i j (hi : i < R.length) (hj : j < R.length), i < j → ∀ g, R[i].v.ownBlock = some g → R[j].v.ownBlock ≠ some g) : ApartR R := List.pairwise_iff_getElem.2 h
theorem Held.get {B : Nat} {w : World} {R : List RowD} (h : Held B w R) {i : Nat} (hi : i < R.length) : R[i].held B w := h _ (List.getElem_mem hi)
theorem Held.store {B : Nat} {w : World} {R : List RowD} (h : Held B w R) (ha : ApartR R) {i : Nat} (hi : i < R.length) {g n c : Nat} (hv : R[i].v = .slice (some ⟨g, 0, none⟩) n c) (j : Nat) (u : Value) :
  Held B (w.setCell ⟨g, j, none⟩ u) (R.set i ⟨R[i].e, R[i].v, R[i].xs.set j u⟩) := by
 have hr := h.get hi
 have hr' : w.ownsRow B R[i].e 1 (.slice (some ⟨g, 0, none⟩) n c) R[i].xs.length R[i].xs := by have := hr; unfold RowD.held at this; rw [hv] at this; exact this
 have hn : n = R[i].xs.length := by
  obtain ⟨a', c', e⟩ := own_form hr'
  injection e with _ e2
 subst hn
 obtain ⟨h1, h2⟩ := hr'.stored j u
 intro r hm
 obtain ⟨k, hk, rfl⟩ := List.mem_iff_getElem.1 hm
 rw [List.length_set] at hk
 by_cases e : k = i
 ·subst e
  rw [List.getElem_set_self]
  show World.ownsRow _ B R[k].e 1 R[k].v (R[k].xs.set j u).length (R[k].xs.set j u)
  rw [List.length_set, hv]
  exact h1
 ·rw [List.getElem_set_ne (Ne.symm e)]
  have hk' := h.get hk
  refine own_kept hk' fun g' hg' => ?_
  refine h2.block g' (RowD.held.lt hk' hg').2 fun eq => ?_
  have eg : g' = g := by simpa using eq
  subst eg
  exact apart_get ha hk hi e hg' (by rw [hv]; rfl)
theorem apart_set {R : List RowD} (ha : ApartR R) {i : Nat} (hi : i < R.length) {r : RowD} (hr : ∀ g, r.v.ownBlock = some g → R[i].v.ownBlock = some g ∨ ∀ q ∈ R, q.v.ownBlock ≠ some g) : ApartR (R.set i r) := by
 refine apart_of fun a b ha0 hb0 hab g hg => ?_
 have ha' : a < R.length := by simpa using ha0
 have hb' : b < R.length := by simpa using hb0
 by_cases ea : a = i
 ·subst ea
  rw [List.getElem_set_self] at hg
  rw [List.getElem_set_ne (by omega)]
  rcases hr g hg with h | h
  ·exact apart_get ha ha' hb' (by omega) h
  ·exact h _ (List.getElem_mem hb')
 ·rw [List.getElem_set_ne (Ne.symm ea)] at hg
  by_cases eb : b = i
  ·subst eb
   rw [List.getElem_set_self]
   intro e
   rcases hr g e with h | h
   ·exact apart_get ha ha' hb' (by omega) hg h
   ·exact h _ (List.getElem_mem ha') hg
  ·rw [List.getElem_set_ne (Ne.symm eb)]
   exact apart_get ha ha' hb' (by omega) hg
theorem Held.grow {B : Nat} {w w' : World} {R : List RowD} (h : Held B w R) (ha : ApartR R) {i : Nat} (hi : i < R.length) {v' : Value} {xs' : List Value} (h1 : w'.ownsRow B R[i].e 1 v' xs'.length xs') (h2 : w.grownBy w' R[i].v.ownBlock) (h3 : v'.ownBlock = R[i].v.ownBlock ∨ v'.ownBlock = some w.heap.size) :
  Held B w' (R.set i ⟨R[i].e, v', xs'⟩) ∧ ApartR (R.set i ⟨R[i].e, v', xs'⟩) := by
 refine ⟨fun r hm => ?_, apart_set ha hi fun g hg => ?_⟩
 ·obtain ⟨k, hk, rfl⟩ := List.mem_iff_getElem.1 hm
  rw [List.length_set] at hk
  by_cases e : k = i
  ·subst e
   rw [List.getElem_set_self]
   exact h1
  ·rw [List.getElem_set_ne (Ne.symm e)]
   have hk' := h.get hk
   refine own_kept hk' fun g' hg' => h2.block g' (RowD.held.lt hk' hg').2 fun eq => ?_
   exact apart_get ha hk hi e hg' eq.symm
 ·rcases h3 with q | q
  ·exact .inl (by rw [← q]; exact hg)
  ·refine .inr fun r hr e => ?_
   have : g = w.heap.size := by
    have hg' : v'.ownBlock = some g := hg
    rw [q] at hg'
    simpa using hg'.symm
   have := (RowD.held.lt (h r hr) e).2
   omega

def OwnIn (lo hi : Nat) (w : World) (e : TypeId) (v : Value) (xs : List Value) : Prop := w.ownsRow lo e 1 v xs.length xs ∧ ∀ g, v.ownBlock = some g → g < hi
theorem OwnIn.below {lo hi : Nat} {w w' : World} {e : TypeId} {v : Value} {xs : List Value} (h : OwnIn lo hi w e v xs) (hb : Below w.heap.size w w') (hh : hi ≤ w.heap.size) : OwnIn lo hi w' e v xs :=
 ⟨own_below h.1 hb fun g hg => by have := h.2 g hg; omega, h.2⟩
theorem OwnIn.held {lo hi : Nat} {w : World} {e : TypeId} {v : Value} {xs : List Value} (h : OwnIn lo hi w e v xs) : RowD.held lo w ⟨e, v, xs⟩ := h.1
theorem OwnIn.made {B : Nat} {w w' : World} {e : TypeId} {n : Nat} {xs : List Value} {v : Value} (h : w'.ownsRow w.heap.size e 1 v n xs) : OwnIn w.heap.size w'.heap.size w' e v xs := by
 have hl := own_len h
 subst hl
 exact ⟨h, fun g hg => (World.ownsRow.lt h g hg).2⟩

theorem wpList_append_row {P : Program} {w : World} {ops : Array Oper} {rest : List Oper} {o : Oper} {a : Act} {Q : Exit → Act → World → Prop} (hgd : o.guard = none) (s x : Operand) (t : TypeId)
  (ho : o.op = .call { callee := .builtin .append, args := #[s, x], argTypes := #[t, t] })
  (base : Nat) (e : TypeId) (i : TypeInfo) (z : Value) (bytes : Nat) (ht : P.underlying t = some (.slice e)) (hi : P.info? e = some i) (hz : i.zero = some z)
  (hsize : i.size = 1) (hby : i.bytes = bytes) (hzs : z.cells.size = 1)
  (v : Value) (n : Nat) (xs : List Value) (hs : a.eval s = v) (hown : w.ownsRow base e 1 v n xs)
  (xv : Value) (B m : Nat) (news : List Value) (hx : a.eval x = xv) (hsrc : w.ownsRow B e 1 xv m news) (h1 : ∀ u ∈ news, u.oneCell' = true)
  (h63 : n + m ≤ maxLen) (hbytes : (n + m) * bytes ≤ 140737488355328) (hbase : base ≤ w.heap.size)
  (h : ∀ v' w', w'.ownsRow base e 1 v' (n + m) (xs ++ news) → w.grownBy w' v.ownBlock → (v'.ownBlock = v.ownBlock ∨ v'.ownBlock = some w.heap.size) → wpList P ops Q rest (a.put o.dst v') w') :
  wpList P ops Q (o :: rest) a w := by
 have hlen := own_len hsrc
 rcases hsrc.2 with ⟨e1, e2⟩ | ⟨g, cap, cur, e1, _⟩
 ·subst e2
  subst e1
  have hnil : news = [] := List.eq_nil_of_length_eq_zero hlen
  subst hnil
  refine wpList_plain hgd fun K hK => ?_
  have hr := run_append_owned_none (P := P) w base t o.type e i 1 ht hi v n xs hown
  unfold Oper.wp execOp
  simp only [ho, resolve, invoke, builtin, Sem.run_bind, Sem.run_pure, Result.andThen_ok, List.map_toArray, List.map_cons, List.map_nil, hs, hx, hr]
  exact hK _ _ (h v w (by rw [List.append_nil]; exact hown) ⟨rfl, rfl, rfl, Nat.le_refl _, fun _ _ _ => rfl⟩ (.inl rfl))
 ·subst e1
  exact wpList_append_own_at w hgd s x t ho base e i z 1 bytes ht hi hz hsize hby hzs (by omega) v n xs hs hown ⟨g, 0, none⟩ m cap news hx (by omega) (hsrc.cells rfl) h1 h63 hbytes hbase (fun v' w' a1 a2 _ a4 => h v' w' a1 a2 a4)

theorem wpList_append_fresh {P : Program} {w : World} {ops : Array Oper} {rest : List Oper} {o : Oper} {a : Act} {Q : Exit → Act → World → Prop} (hgd : o.guard = none) (s x : Operand) (t : TypeId)
  (ho : o.op = .call { callee := .builtin .append, args := #[s, x], argTypes := #[t, t] })
  (e : TypeId) (i : TypeInfo) (z : Value) (bytes : Nat) (ht : P.underlying t = some (.slice e)) (hi : P.info? e = some i) (hz : i.zero = some z)
  (hsize : i.size = 1) (hby : i.bytes = bytes) (hzs : z.cells.size = 1)
  (b : Nat) (hs : a.eval s = .slice (some ⟨b, 0, none⟩) 0 0)
  (xv : Value) (B m : Nat) (news : List Value) (hx : a.eval x = xv) (hsrc : w.ownsRow B e 1 xv m news) (h1 : ∀ u ∈ news, u.oneCell' = true)
  (h63 : m ≤ maxLen) (hbytes : m * bytes ≤ 140737488355328)
  (hK1 : m = 0 → news = [] → wpList P ops Q rest (a.put o.dst (.slice (some ⟨b, 0, none⟩) 0 0)) w)
  (hK2 : ∀ v' w', w'.ownsRow w.heap.size e 1 v' m news → w.grownBy w' none → wpList P ops Q rest (a.put o.dst v') w') :
  wpList P ops Q (o :: rest) a w := by
 have hlen := own_len hsrc
 rcases hsrc.2 with ⟨e1, e2⟩ | ⟨g, cap, cur, e1, _⟩
 ·subst e2
  subst e1
  have hnil : news = [] := List.eq_nil_of_length_eq_zero hlen
  refine wpList_plain hgd fun K hK => ?_
  have hr : (Builtin.append_ #[t, t] o.type #[.slice (some ⟨b, 0, none⟩) 0 0, .slice none 0 0]).run P w = .ok (.slice (some ⟨b, 0, none⟩) 0 0) w := by
   simp [Builtin.append_, run_underlying ht, sizeOf, typeInfo, hi, Builtin.lenOf, Builtin.firstCells, storeCells]
  unfold Oper.wp execOp
  simp only [ho, resolve, invoke, builtin, Sem.run_bind, Sem.run_pure, Result.andThen_ok, List.map_toArray, List.map_cons, List.map_nil, hs, hx, hr]
  exact hK _ _ (hK1 rfl hnil)
 ·subst e1
  refine wpList_append_arg w hgd s x t ho e i z 1 bytes ht hi hz hsize hby hzs (by omega) b 0 0 0 [] hs rfl (fun j u hj => by simp at hj) ⟨g, 0, none⟩ m cap news hx (by omega) (hsrc.cells rfl) h1 (fun h j hj => by omega) (by omega) (by simpa using hbytes) (fun h => ?_) (fun h v' w' a1 a2 => hK2 v' w' (by simpa using a1) a2)
  have hm : m = 0 := by omega
  have hnil : news = [] := List.eq_nil_of_length_eq_zero (by omega)
  have := hK1 hm hnil
  subst hm
  subst hnil
  exact this

structure S11 where
 pcs : List Int
 reads : List (List Int)
 memory : List Int
 locks : List Int
 buffers : List (List Int)
def intsV (zs : List Int) : List Value := zs.map (Value.int .i64)
theorem intsV_one (zs : List Int) : ∀ u ∈ intsV zs, u.oneCell' = true := fun u hu => by
 obtain ⟨z, _, rfl⟩ := List.mem_map.1 hu
 rfl
theorem intsV_length (zs : List Int) : (intsV zs).length = zs.length := by simp [intsV]
def rowsD (us : List Value) (rows : List (List Int)) : List RowD := List.zipWith (fun u zs => ⟨2, u, intsV zs⟩) us rows
def stRows (u0 u1 u2 u3 u4 : Value) (us1 us4 : List Value) (s : S11) : List RowD := [⟨2, u0, intsV s.pcs⟩, ⟨25, u1, us1⟩, ⟨2, u2, intsV s.memory⟩, ⟨2, u3, intsV s.locks⟩, ⟨25, u4, us4⟩] ++ (rowsD us1 s.reads ++ rowsD us4 s.buffers)
structure StAt (B : Nat) (w : World) (g : Nat) (u0 u1 u2 u3 u4 : Value) (us1 us4 : List Value) (s : S11) : Prop where
 lo : B ≤ g
 hi : g < w.heap.size
 row : w.rangeAt g 0 [u0, u1, u2, u3, u4]
 l1 : us1.length = s.reads.length
 l4 : us4.length = s.buffers.length
 held : Held B w (stRows u0 u1 u2 u3 u4 us1 us4 s)
def ReadSt (w : World) (p : Value) (s : S11) : Prop := ∃ g u0 u1 u2 u3 u4 us1 us4, p = .pointer (some ⟨g, 0, none⟩) ∧ StAt 0 w g u0 u1 u2 u3 u4 us1 us4 s
theorem StAt.below {B : Nat} {w w' : World} {g : Nat} {u0 u1 u2 u3 u4 : Value} {us1 us4 : List Value} {s : S11} (h : StAt B w g u0 u1 u2 u3 u4 us1 us4 s) (hb : Below w.heap.size w w') : StAt B w' g u0 u1 u2 u3 u4 us1 us4 s :=
 ⟨h.lo, Nat.lt_of_lt_of_le h.hi hb.size, rangeAt_same (Same.below hb) (Nat.zero_le _) h.hi h.row, h.l1, h.l4, h.held.below hb⟩
theorem ReadSt.below {w w' : World} {p : Value} {s : S11} (h : ReadSt w p s) (hb : Below w.heap.size w w') : ReadSt w' p s := by
 obtain ⟨g, u0, u1, u2, u3, u4, us1, us4, e, h⟩ := h
 exact ⟨g, u0, u1, u2, u3, u4, us1, us4, e, h.below hb⟩
theorem rowsD_length {us : List Value} {rows : List (List Int)} (h : us.length = rows.length) : (rowsD us rows).length = rows.length := by simp [rowsD, h]
theorem rowsD_get {us : List Value} {rows : List (List Int)} {i : Nat} (h1 : i < us.length) (h2 : i < rows.length) (h : i < (rowsD us rows).length) : (rowsD us rows)[i] = ⟨2, us[i], intsV rows[i]⟩ := by simp [rowsD]
theorem StAt.pcs {B : Nat} {w : World} {g : Nat} {u0 u1 u2 u3 u4 : Value} {us1 us4 : List Value} {s : S11} (h : StAt B w g u0 u1 u2 u3 u4 us1 us4 s) : w.ownsRow B 2 1 u0 s.pcs.length (intsV s.pcs) := by
 have := h.held ⟨2, u0, intsV s.pcs⟩ (by simp [stRows]); simpa [RowD.held, intsV] using this
theorem StAt.reads {B : Nat} {w : World} {g : Nat} {u0 u1 u2 u3 u4 : Value} {us1 us4 : List Value} {s : S11} (h : StAt B w g u0 u1 u2 u3 u4 us1 us4 s) : w.ownsRow B 25 1 u1 s.reads.length us1 := by
 have := h.held ⟨25, u1, us1⟩ (by simp [stRows]); rw [← h.l1]; exact this
theorem StAt.memory {B : Nat} {w : World} {g : Nat} {u0 u1 u2 u3 u4 : Value} {us1 us4 : List Value} {s : S11} (h : StAt B w g u0 u1 u2 u3 u4 us1 us4 s) : w.ownsRow B 2 1 u2 s.memory.length (intsV s.memory) := by
 have := h.held ⟨2, u2, intsV s.memory⟩ (by simp [stRows]); simpa [RowD.held, intsV] using this
theorem StAt.locks {B : Nat} {w : World} {g : Nat} {u0 u1 u2 u3 u4 : Value} {us1 us4 : List Value} {s : S11} (h : StAt B w g u0 u1 u2 u3 u4 us1 us4 s) : w.ownsRow B 2 1 u3 s.locks.length (intsV s.locks) := by
 have := h.held ⟨2, u3, intsV s.locks⟩ (by simp [stRows]); simpa [RowD.held, intsV] using this
theorem StAt.buffers {B : Nat} {w : World} {g : Nat} {u0 u1 u2 u3 u4 : Value} {us1 us4 : List Value} {s : S11} (h : StAt B w g u0 u1 u2 u3 u4 us1 us4 s) : w.ownsRow B 25 1 u4 s.buffers.length us4 := by
 have := h.held ⟨25, u4, us4⟩ (by simp [stRows]); rw [← h.l4]; exact this
theorem StAt.read {B : Nat} {w : World} {g : Nat} {u0 u1 u2 u3 u4 : Value} {us1 us4 : List Value} {s : S11} (h : StAt B w g u0 u1 u2 u3 u4 us1 us4 s) {i : Nat} (hi : i < s.reads.length) : ∃ u, us1[i]? = some u ∧ w.ownsRow B 2 1 u s.reads[i].length (intsV s.reads[i]) := by
 have h1 : i < us1.length := by rw [h.l1]; exact hi
 have := h.held ⟨2, us1[i], intsV s.reads[i]⟩ (by
  have hm := List.getElem_mem (l := rowsD us1 s.reads) (n := i) (by rw [rowsD_length h.l1]; exact hi)
  rw [rowsD_get h1 hi] at hm
  simp only [stRows, List.mem_append]
  exact .inr (.inl hm))
 exact ⟨us1[i], by simp [h1], by simpa [RowD.held, intsV] using this⟩
theorem StAt.buffer {B : Nat} {w : World} {g : Nat} {u0 u1 u2 u3 u4 : Value} {us1 us4 : List Value} {s : S11} (h : StAt B w g u0 u1 u2 u3 u4 us1 us4 s) {i : Nat} (hi : i < s.buffers.length) : ∃ u, us4[i]? = some u ∧ w.ownsRow B 2 1 u s.buffers[i].length (intsV s.buffers[i]) := by
 have h1 : i < us4.length := by rw [h.l4]; exact hi
 have := h.held ⟨2, us4[i], intsV s.buffers[i]⟩ (by
  have hm := List.getElem_mem (l := rowsD us4 s.buffers) (n := i) (by rw [rowsD_length h.l4]; exact hi)
  rw [rowsD_get h1 hi] at hm
  simp only [stRows, List.mem_append]
  exact .inr (.inr hm))
 exact ⟨us4[i], by simp [h1], by simpa [RowD.held, intsV] using this⟩
theorem intCell {B : Nat} {w : World} {v : Value} {zs : List Int} (h : w.ownsRow B 2 1 v zs.length (intsV zs)) {i : Nat} (hi : i < zs.length) : ∃ b c, v = .slice (some ⟨b, 0, none⟩) zs.length c ∧ zs.length ≤ c ∧ B ≤ b ∧ b < w.heap.size ∧ w.cell? ⟨b, i, none⟩ = some (.int .i64 zs[i]) ∧ w.frozen? ⟨b, i, none⟩ = false := by
 obtain ⟨b, c, rfl⟩ := own_some h (by omega)
 have hl := World.ownsRow.lt h b rfl
 refine ⟨b, c, rfl, own_cap h, hl.1, hl.2, ?_, h.frozenAt i⟩
 rw [h.cellAt i (by omega)]; simp [intsV, hi]
theorem rowCell {B : Nat} {w : World} {e : TypeId} {v : Value} {n : Nat} {us : List Value} (h : w.ownsRow B e 1 v n us) {i : Nat} {u : Value} (hu : us[i]? = some u) : ∃ b c, v = .slice (some ⟨b, 0, none⟩) n c ∧ n ≤ c ∧ i < n ∧ B ≤ b ∧ b < w.heap.size ∧ w.cell? ⟨b, i, none⟩ = some u ∧ w.frozen? ⟨b, i, none⟩ = false := by
 have hi : i < n := by
  have := own_len h
  have := (List.getElem?_eq_some_iff.1 hu).1
  omega
 obtain ⟨b, c, rfl⟩ := own_some h (by omega)
 have hl := World.ownsRow.lt h b rfl
 exact ⟨b, c, rfl, own_cap h, hi, hl.1, hl.2, by rw [h.cellAt i (by omega)]; exact hu, h.frozenAt i⟩
end Go.Proofs.YtknbchheoloaoaaGreat

/- spec.l11Start. -/
namespace Go.Proofs.YtknbchheoloaoaaGreat
set_option linter.unusedVariables false
open Go.ChangeShapes Go.WideShapes Go.ChangeAt Go.RowKit

def startS (n nv : Nat) : S11 := ⟨List.replicate n 0, List.replicate n [], List.replicate nv 0, [0, 0], List.replicate n []⟩
def nils (n : Nat) : List Value := List.replicate n (.slice none 0 0)
def startVal (n nv : Nat) (B : Nat) : Nat → Value → Nat → Nat → World → Prop
 | 0, v, _, _, _ => v = .int .i64 n
 | 1, v, lo, hi, w => OwnIn lo hi w 2 v (intsV (List.replicate n 0))
 | 2, v, _, _, _ => v = .int .i64 n
 | 3, v, lo, hi, w => OwnIn lo hi w 25 v (nils n)
 | 4, v, _, _, _ => v = .pointer (some ⟨B, 0, none⟩)
 | 5, v, _, _, _ => v = .int .i64 nv
 | 6, v, lo, hi, w => OwnIn lo hi w 2 v (intsV (List.replicate nv 0))
 | 7, v, lo, hi, w => OwnIn lo hi w 2 v (intsV [0, 0])
 | 8, v, _, _, _ => v = .int .i64 n
 | 9, v, lo, hi, w => OwnIn lo hi w 25 v (nils n)
 | 10, v, _, _, w => ∃ u0 u1 u2 u3 u4, v = .agg #[u0, u1, u2, u3, u4] ∧ Held 0 w (stRows u0 u1 u2 u3 u4 (nils n) (nils n) (startS n nv))
 | 11, v, _, _, w => ReadSt w v (startS n nv)
 | _, v, _, _, w => ReadSt w v (startS n nv)
theorem startVal_below (n nv B : Nat) : ∀ i v lo hi (w w' : World), Below w.heap.size w w' → hi ≤ w.heap.size → startVal n nv B i v lo hi w → startVal n nv B i v lo hi w' := by
 intro i v lo hi w w' hb hh h
 match i, h with
 | 0, h => exact h
 | 1, h => exact OwnIn.below h hb hh
 | 2, h => exact h
 | 3, h => exact OwnIn.below h hb hh
 | 4, h => exact h
 | 5, h => exact h
 | 6, h => exact OwnIn.below h hb hh
 | 7, h => exact OwnIn.below h hb hh
 | 8, h => exact h
 | 9, h => exact OwnIn.below h hb hh
 | 10, ⟨u0, u1, u2, u3, u4, e, h⟩ => exact ⟨u0, u1, u2, u3, u4, e, h.below hb⟩
 | 11, h => exact ReadSt.below h hb
 | i + 12, h => exact ReadSt.below (show ReadSt w v (startS n nv) from h) hb
theorem held_nils (w : World) : ∀ n, Held 0 w (rowsD (nils n) (List.replicate n []))
 | 0 => fun r hr => by simp [rowsD, nils] at hr
 | n + 1 => fun r hr => by
  rw [nils, List.replicate_succ, List.replicate_succ, rowsD, List.zipWith_cons_cons] at hr
  rcases List.mem_cons.1 hr with rfl | hr
  ·exact World.ownsRow_nil w 0 2 1
  ·exact held_nils w n r hr
theorem made_one (z : Value) (hz : z.cells = #[z]) (n : Nat) : (madeCells z.cells (n * 1)).toList = List.replicate n z := by
 rw [hz]
 refine List.ext_getElem (by simp [madeCells]) fun i h1 h2 => ?_
 simp [madeCells, Nat.mod_one]
theorem made_ints (n : Nat) : (madeCells (Value.int .i64 0).cells (n * 1)).toList = intsV (List.replicate n 0) := by
 rw [made_one _ rfl]; simp [intsV]
theorem made_nils (n : Nat) : (madeCells (Value.slice none 0 0).cells (n * 1)).toList = nils n := made_one _ rfl n

set_option maxRecDepth 1000000 in
set_option maxHeartbeats 2000000 in
theorem start_calls (vars vol locks : Int) (ta : Option Addr) (n tc : Nat) (nv : Nat) (w : World) (hv : vars = nv) (hv1 : nv ≤ 4) (hn : n ≤ 3) :
  Calls Tryz.prog 18 #[.agg #[.int .i64 vars, .int .i64 vol, .int .i64 locks, .slice ta n tc]] w fun e w' => (∃ p, e = .returned p ∧ ReadSt w' p (startS n nv)) ∧ Below w.heap.size w w' := by
 obtain ⟨i2, hi2, hz2, hs2, hb2⟩ := info_parts (show (Tryz.prog.info? 2).map (fun i => (i.zero, i.size, i.bytes)) = some (some (.int .i64 0), 1, 8) by kernel_rfl)
 obtain ⟨i5, hi5, hz5, hs5, hb5⟩ := info_parts (show (Tryz.prog.info? 25).map (fun i => (i.zero, i.size, i.bytes)) = some (some (.slice none 0 0), 1, 24) by kernel_rfl)
 subst hv
 go_enter Tryz.func18, Tryz.ntmps18
 go_wp2_with fail
 have hc0 : Hid (∀ W, Below (w.alloc (.cells #[.int .i64 nv, .int .i64 vol, .int .i64 locks, .slice ta n tc] 34)).heap.size (w.alloc (.cells #[.int .i64 nv, .int .i64 vol, .int .i64 locks, .slice ta n tc] 34)) W → W.cell? ⟨w.heap.size, 0, none⟩ = some (.int .i64 nv)) := fun W hW => by
  rw [hW.cell (p := ⟨w.heap.size, 0, none⟩) (by simp)]
  exact rangeAt_heap (heap_alloc_new w _) 0 _ rfl
 have hB0 : Hid (Below w.heap.size w (w.alloc (.cells #[.int .i64 nv, .int .i64 vol, .int .i64 locks, .slice ta n tc] 34))) := below_1 _ _
 generalize w.alloc (.cells #[.int .i64 nv, .int .i64 vol, .int .i64 locks, .slice ta n tc] 34) = W0 at *
 refine wp_region_own (by kernel_rfl) (fun vs => { tmps := #[.agg #[.int .i64 nv, .int .i64 vol, .int .i64 locks, .slice ta n tc], .pointer (some ⟨w.heap.size, 0, none⟩), vs 12, .int .i64 n, .pointer (some ⟨w.heap.size, 3, none⟩), .slice ta n tc, .int .i64 n, vs 0, vs 1, vs 2, vs 3, vs 4, vs 5, vs 6, vs 7, vs 8, vs 9, vs 10, vs 11], defers := [] }) (startVal n nv w.heap.size) (fun i => if i = 12 then .pointer none else undef) rfl (startVal_below n nv w.heap.size) (allAt_all ⟨?_, ?_, ?_, ?_, ?_, ?_, ?_, ?_, ?_, ?_, ?_, ?_, ?_, trivial⟩) ?_ (regForward_done (by kernel_rfl))
 case refine_1 =>
  intro vs lo hi W hB hv
  go_wp2
  exact ⟨_, rfl, Below.refl _ _, rfl⟩
 case refine_2 =>
  intro vs lo hi W hB hv
  have e0 : vs 0 = .int .i64 n := (hv ⟨0, .data⟩ (by simp) rfl).1
  refine wpList_make_full _ rfl (.tmp 7) (.tmp 7) 25 rfl W.heap.size 2 i2 (.int .i64 0) 1 Tryz.underlying25 hi2 hz2 hs2 .i64 .i64 (n : Int) (n : Int) n e0 e0 rfl rfl (by rw [hb2]; omega) (by unfold maxLen; omega) (Nat.le_refl _) ?_
  intro w1 hown hgrow
  refine wpList_nil ?_
  exact ⟨_, rfl, (Below.refl _ _).grown hgrow (Nat.le_refl _) (fun j hj => by cases hj), by
   have := OwnIn.made (B := 0) hown
   rw [made_ints] at this
   exact this⟩
 case refine_3 =>
  intro vs lo hi W hB hv
  go_wp2
  exact ⟨_, rfl, Below.refl _ _, rfl⟩
 case refine_4 =>
  intro vs lo hi W hB hv
  have e0 : vs 2 = .int .i64 n := (hv ⟨2, .data⟩ (by simp) rfl).1
  refine wpList_make_full _ rfl (.tmp 9) (.tmp 9) 49 rfl W.heap.size 25 i5 (.slice none 0 0) 1 Tryz.underlying49 hi5 hz5 hs5 .i64 .i64 (n : Int) (n : Int) n e0 e0 rfl rfl (by rw [hb5]; omega) (by unfold maxLen; omega) (Nat.le_refl _) ?_
  intro w1 hown hgrow
  refine wpList_nil ?_
  exact ⟨_, rfl, (Below.refl _ _).grown hgrow (Nat.le_refl _) (fun j hj => by cases hj), by
   have := OwnIn.made (B := 0) hown
   rw [made_nils] at this
   exact this⟩
 case refine_5 =>
  intro vs lo hi W hB hv
  go_wp2
  exact ⟨_, rfl, Below.refl _ _, rfl⟩
 case refine_6 =>
  intro vs lo hi W hB hv
  have e0 : vs 4 = .pointer (some ⟨w.heap.size, 0, none⟩) := (hv ⟨4, .data⟩ (by simp) rfl).1
  have c0 := hc0.out W hB
  simp only [e0]
  go_wp2
  exact ⟨.int .i64 nv, by rw [← e0]; rfl, Below.refl _ _, rfl⟩
 case refine_7 =>
  intro vs lo hi W hB hv
  have e0 : vs 5 = .int .i64 nv := (hv ⟨5, .data⟩ (by simp) rfl).1
  refine wpList_make_full _ rfl (.tmp 12) (.tmp 12) 25 rfl W.heap.size 2 i2 (.int .i64 0) 1 Tryz.underlying25 hi2 hz2 hs2 .i64 .i64 (nv : Int) (nv : Int) nv e0 e0 rfl rfl (by rw [hb2]; omega) (by unfold maxLen; omega) (Nat.le_refl _) ?_
  intro w1 hown hgrow
  refine wpList_nil ?_
  exact ⟨_, rfl, (Below.refl _ _).grown hgrow (Nat.le_refl _) (fun j hj => by cases hj), by
   have := OwnIn.made (B := 0) hown
   rw [made_ints] at this
   exact this⟩
 case refine_8 =>
  intro vs lo hi W hB hv
  refine wpList_make_full _ rfl (.const (.int .i64 2)) (.const (.int .i64 2)) 25 rfl W.heap.size 2 i2 (.int .i64 0) 1 Tryz.underlying25 hi2 hz2 hs2 .i64 .i64 (2 : Int) (2 : Int) 2 rfl rfl rfl rfl (by rw [hb2]; omega) (by unfold maxLen; omega) (Nat.le_refl _) ?_
  intro w1 hown hgrow
  refine wpList_nil ?_
  exact ⟨_, rfl, (Below.refl _ _).grown hgrow (Nat.le_refl _) (fun j hj => by cases hj), by
   have := OwnIn.made (B := 0) hown
   rw [made_ints] at this
   exact this⟩
 case refine_9 =>
  intro vs lo hi W hB hv
  go_wp2
  exact ⟨_, rfl, Below.refl _ _, rfl⟩
 case refine_10 =>
  intro vs lo hi W hB hv
  have e0 : vs 8 = .int .i64 n := (hv ⟨8, .data⟩ (by simp) rfl).1
  refine wpList_make_full _ rfl (.tmp 15) (.tmp 15) 49 rfl W.heap.size 25 i5 (.slice none 0 0) 1 Tryz.underlying49 hi5 hz5 hs5 .i64 .i64 (n : Int) (n : Int) n e0 e0 rfl rfl (by rw [hb5]; omega) (by unfold maxLen; omega) (Nat.le_refl _) ?_
  intro w1 hown hgrow
  refine wpList_nil ?_
  exact ⟨_, rfl, (Below.refl _ _).grown hgrow (Nat.le_refl _) (fun j hj => by cases hj), by
   have := OwnIn.made (B := 0) hown
   rw [made_nils] at this
   exact this⟩
 case refine_11 =>
  intro vs lo hi W hB hv
  have e1 := hv ⟨1, .data⟩ (by simp) rfl
  have e3 := hv ⟨3, .data⟩ (by simp) rfl
  have e6 := hv ⟨6, .data⟩ (by simp) rfl
  have e7 := hv ⟨7, .data⟩ (by simp) rfl
  have e9 := hv ⟨9, .data⟩ (by simp) rfl
  obtain ⟨a1, c1, q1⟩ := own_form e1.1.1
  obtain ⟨a3, c3, q3⟩ := own_form e3.1.1
  obtain ⟨a6, c6, q6⟩ := own_form e6.1.1
  obtain ⟨a7, c7, q7⟩ := own_form e7.1.1
  obtain ⟨a9, c9, q9⟩ := own_form e9.1.1
  have hH : Hid (Held 0 W (stRows (vs 1) (vs 3) (vs 6) (vs 7) (vs 9) (nils n) (nils n) (startS n nv))) := by
   refine Held.append ?_ (Held.append (held_nils W n) (held_nils W n))
   intro r hr
   simp only [List.mem_cons, List.not_mem_nil, or_false] at hr
   rcases hr with rfl | rfl | rfl | rfl | rfl
   ·exact own_mono e1.1.1 (Nat.zero_le _)
   ·exact own_mono e3.1.1 (Nat.zero_le _)
   ·exact own_mono e6.1.1 (Nat.zero_le _)
   ·exact own_mono e7.1.1 (Nat.zero_le _)
   ·exact own_mono e9.1.1 (Nat.zero_le _)
  clear e1 e3 e6 e7 e9
  rw [q1, q3, q6, q7, q9] at hH
  simp only [q1, q3, q6, q7, q9]
  go_wp2
  exact ⟨.agg #[.slice a1 _ c1, .slice a3 _ c3, .slice a6 _ c6, .slice a7 _ c7, .slice a9 _ c9], by rw [← q1, ← q3, ← q6, ← q7, ← q9]; rfl, Below.refl _ _, _, _, _, _, _, rfl, hH.out⟩
 case refine_12 =>
  intro vs lo hi W hB hv
  obtain ⟨u0, u1, u2, u3, u4, e10, h10⟩ := (hv ⟨10, .data⟩ (by simp) rfl).1
  simp only [e10]
  go_wp2
  exact ⟨.pointer (some ⟨W.heap.size, 0, none⟩), by rw [← e10]; rfl, below_1 _ _, W.heap.size, u0, u1, u2, u3, u4, nils n, nils n, rfl, ⟨Nat.zero_le _, by simp, rangeAt_heap (heap_alloc_new W _), by simp [nils, startS], by simp [nils, startS], h10.below (below_1 _ _)⟩⟩
 case refine_13 =>
  intro vs lo hi W hB hv
  have e11 : ReadSt W (vs 11) (startS n nv) := (hv ⟨11, .data⟩ (by simp) rfl).1
  go_wp2
  exact ⟨_, rfl, Below.refl _ _, e11⟩
 case refine_14 =>
  intro vs lo hi W hB hval _ _
  have e12 : ReadSt W (vs 12) (startS n nv) := hval 12 (by simp)
  go_wp2
  go_ret
  exact ⟨⟨_, rfl, e12⟩, below_on hB0.out hB⟩
end Go.Proofs.YtknbchheoloaoaaGreat

/- spec.l11CopyRows: rows of numbers copied. -/
namespace Go.Proofs.YtknbchheoloaoaaGreat
set_option linter.unusedVariables false
open Go.ChangeShapes Go.WideShapes Go.ChangeAt Go.RowKit

structure RowsAt (B : Nat) (w : World) (u : Value) (us : List Value) (rows : List (List Int)) : Prop where
 len : us.length = rows.length
 held : Held B w (⟨25, u, us⟩ :: rowsD us rows)
structure RowsOwn (lo hi : Nat) (w : World) (u : Value) (us : List Value) (rows : List (List Int)) : Prop extends RowsAt lo w u us rows where
 apart : ApartR (⟨25, u, us⟩ :: rowsD us rows)
 lt : ∀ r ∈ (⟨25, u, us⟩ :: rowsD us rows : List RowD), ∀ g, r.v.ownBlock = some g → g < hi
theorem RowsAt.below {B : Nat} {w w' : World} {u : Value} {us : List Value} {rows : List (List Int)} (h : RowsAt B w u us rows) (hb : Below w.heap.size w w') : RowsAt B w' u us rows := ⟨h.len, h.held.below hb⟩
theorem RowsOwn.below {lo hi : Nat} {w w' : World} {u : Value} {us : List Value} {rows : List (List Int)} (h : RowsOwn lo hi w u us rows) (hb : Below w.heap.size w w') : RowsOwn lo hi w' u us rows := ⟨h.toRowsAt.below hb, h.apart, h.lt⟩
theorem RowsAt.outer {B : Nat} {w : World} {u : Value} {us : List Value} {rows : List (List Int)} (h : RowsAt B w u us rows) : w.ownsRow B 25 1 u rows.length us := by
 have := h.held ⟨25, u, us⟩ (by simp); rw [← h.len]; exact this
theorem RowsAt.inner {B : Nat} {w : World} {u : Value} {us : List Value} {rows : List (List Int)} (h : RowsAt B w u us rows) {i : Nat} (hi : i < rows.length) : ∃ v, us[i]? = some v ∧ w.ownsRow B 2 1 v rows[i].length (intsV rows[i]) := by
 have h1 : i < us.length := by rw [h.len]; exact hi
 have := h.held ⟨2, us[i], intsV rows[i]⟩ (by
  have hm := List.getElem_mem (l := rowsD us rows) (n := i) (by rw [rowsD_length h.len]; exact hi)
  rw [rowsD_get h1 hi] at hm
  exact List.mem_cons_of_mem _ hm)
 exact ⟨us[i], by simp [h1], by simpa [RowD.held, intsV] using this⟩
theorem rowsD_snoc {us : List Value} {rows : List (List Int)} (h : us.length = rows.length) (v : Value) (zs : List Int) : rowsD (us ++ [v]) (rows ++ [zs]) = rowsD us rows ++ [⟨2, v, intsV zs⟩] := by
 simp [rowsD, List.zipWith_append h]
theorem RowsOwn.snoc {lo : Nat} {w w1 w2 : World} {u u' v : Value} {us : List Value} {rows : List (List Int)} {zs : List Int} (h : RowsOwn lo w.heap.size w u us rows) (hlo : lo ≤ w.heap.size) (hb : Below w.heap.size w w1) (hv : w1.ownsRow w.heap.size 2 1 v zs.length (intsV zs)) (hu : w2.ownsRow lo 25 1 u' (rows.length + 1) (us ++ [v])) (hg : w1.grownBy w2 u.ownBlock) (hu' : u'.ownBlock = u.ownBlock ∨ u'.ownBlock = some w1.heap.size) :
  RowsOwn lo w2.heap.size w2 u' (us ++ [v]) (rows ++ [zs]) := by
 have hlen : (us ++ [v]).length = (rows ++ [zs]).length := by simp [h.len]
 have hs1 := hb.size
 have hs2 := hg.size
 have hub : ∀ g, u.ownBlock = some g → g < w.heap.size := h.lt ⟨25, u, us⟩ (by simp)
 have hvb : ∀ g, v.ownBlock = some g → w.heap.size ≤ g ∧ g < w1.heap.size := fun g hg => World.ownsRow.lt hv g hg
 have hin : ∀ r ∈ rowsD us rows, ∀ g, r.v.ownBlock = some g → g < w.heap.size ∧ u.ownBlock ≠ some g := fun r hr g hg => by
  refine ⟨h.lt r (List.mem_cons_of_mem _ hr) g hg, fun e => ?_⟩
  exact (List.pairwise_cons.1 h.apart).1 r hr g e hg
 refine ⟨⟨hlen, ?_⟩, ?_, ?_⟩
 ·intro r hr
  rw [rowsD_snoc h.len] at hr
  rcases List.mem_cons.1 hr with rfl | hr
  ·show World.ownsRow _ _ _ _ _ _ _
   rw [show (us ++ [v]).length = rows.length + 1 by simp [h.len]]
   exact hu
  ·rcases List.mem_append.1 hr with hr | hr
   ·refine own_kept (own_kept (h.held r (List.mem_cons_of_mem _ hr)) fun g hg' => hb.block g (hin r hr g hg').1) fun g hg' => hg.block g (by have := (hin r hr g hg').1; omega) fun e => (hin r hr g hg').2 e.symm
   ·obtain rfl : r = ⟨2, v, intsV zs⟩ := by simpa using hr
    have hv2 : w1.ownsRow lo 2 1 v (intsV zs).length (intsV zs) := by rw [intsV_length]; exact own_mono hv hlo
    exact own_kept hv2 fun g hg' => hg.block g (hvb g hg').2 fun e => by
     have := hub g e.symm
     have := (hvb g hg').1
     omega
 ·rw [rowsD_snoc h.len]
  refine List.pairwise_cons.2 ⟨fun r hr g hg' => ?_, ?_⟩
  ·have hg2 : u'.ownBlock = some g := hg'
   rcases List.mem_append.1 hr with hr | hr
   ·intro e
    have h1 := hin r hr g e
    rcases hu' with q | q
    ·exact h1.2 (by rw [← q]; exact hg2)
    ·rw [q] at hg2
     have : w1.heap.size = g := by simpa using hg2
     omega
   ·obtain rfl : r = ⟨2, v, intsV zs⟩ := by simpa using hr
    intro e
    have h1 := hvb g e
    rcases hu' with q | q
    ·have := hub g (by rw [← q]; exact hg2)
     omega
    ·rw [q] at hg2
     have : w1.heap.size = g := by simpa using hg2
     omega
  ·refine List.pairwise_append.2 ⟨(List.pairwise_cons.1 h.apart).2, by simp, fun r hr q hq g hg' e => ?_⟩
   obtain rfl : q = ⟨2, v, intsV zs⟩ := by simpa using hq
   have h1 := (hin r hr g hg').1
   have := (hvb g e).1
   omega
 ·intro r hr g hg'
  rw [rowsD_snoc h.len] at hr
  rcases List.mem_cons.1 hr with rfl | hr
  ·exact (World.ownsRow.lt hu g hg').2
  ·rcases List.mem_append.1 hr with hr | hr
   ·have := (hin r hr g hg').1
    omega
   ·obtain rfl : r = ⟨2, v, intsV zs⟩ := by simpa using hr
    have := (hvb g hg').2
    omega
theorem RowsOwn.mono {lo hi hi' : Nat} {w : World} {u : Value} {us : List Value} {rows : List (List Int)} (h : RowsOwn lo hi w u us rows) (hh : hi ≤ hi') : RowsOwn lo hi' w u us rows := ⟨h.toRowsAt, h.apart, fun r hr g hg => by have := h.lt r hr g hg; omega⟩

theorem below_app {wr w1 : World} {o : Obj} {n c : Nat} (h : (wr.alloc o).grownBy w1 (Value.slice (some ⟨wr.heap.size, 0, none⟩) n c).ownBlock) : Below wr.heap.size wr w1 := (below_1 wr o).grown h (by simp) (fun j hj => by
 have : wr.heap.size = j := by simpa [Value.ownBlock] using hj
 omega)
set_option maxRecDepth 1000000 in
set_option maxHeartbeats 2000000 in
theorem copyRows_calls (u : Value) (us : List Value) (rows : List (List Int)) (w : World) (h : RowsAt 0 w u us rows) (hn : rows.length ≤ 3) (hl : ∀ r ∈ rows, r.length ≤ 1000) :
  Calls Tryz.prog 64 #[u] w fun e w' => (∃ u' us', e = .returned u' ∧ RowsOwn w.heap.size w'.heap.size w' u' us' rows) ∧ Below w.heap.size w w' := by
 obtain ⟨i2, hi2, hz2, hs2, hb2⟩ := info_parts (show (Tryz.prog.info? 2).map (fun i => (i.zero, i.size, i.bytes)) = some (some (.int .i64 0), 1, 8) by kernel_rfl)
 obtain ⟨i5, hi5, hz5, hs5, hb5⟩ := info_parts (show (Tryz.prog.info? 25).map (fun i => (i.zero, i.size, i.bytes)) = some (some (.slice none 0 0), 1, 24) by kernel_rfl)
 obtain ⟨a, c, rfl⟩ := own_form h.outer
 have hH : Hid (∀ W, Below w.heap.size w W → RowsAt 0 W (.slice a rows.length c) us rows) := fun W hW => h.below hW
 clear h
 go_enter Tryz.func64, Tryz.ntmps64
 go_wp2
 have hst : Hid (RowsOwn w.heap.size (w.alloc (.cells #[] 25)).heap.size (w.alloc (.cells #[] 25)) (.slice (some ⟨w.heap.size, 0, none⟩) 0 0) [] (rows.take 0)) := by
  refine ⟨⟨rfl, fun r hr => ?_⟩, ?_, fun r hr g hg => ?_⟩
  ·obtain rfl : r = ⟨25, .slice (some ⟨w.heap.size, 0, none⟩) 0 0, []⟩ := by simpa [rowsD] using hr
   exact World.ownsRow_made w #[] 0 (Nat.le_refl _) (by unfold maxLen; omega) rfl
  ·simp [rowsD, ApartR]
  ·obtain rfl : r = ⟨25, .slice (some ⟨w.heap.size, 0, none⟩) 0 0, []⟩ := by simpa [rowsD] using hr
   have : w.heap.size = g := by simpa [Value.ownBlock] using hg
   simp; omega
 have hb0 : Hid (Below w.heap.size w (w.alloc (.cells #[] 25))) := below_1 _ _
 go_loopw [3, 4] (fun v i wr => ∃ (m : Nat) (us' : List Value), m ≤ rows.length ∧ i = .int .i64 m ∧ Hid (RowsOwn w.heap.size wr.heap.size wr v us' (rows.take m)) ∧ Hid (Below w.heap.size w wr)) (fun _ i _ => rows.length - (intOf i).toNat)
 case atStart => exact ⟨0, [], Nat.zero_le _, rfl, hst, hb0⟩
 case round =>
  obtain ⟨m, us', hm, rfl, hR, hB⟩ := hrel
  clear hst hb0
  by_cases hlt : m < rows.length
  ·have hlt' : (m : Int) < (rows.length : Int) := by omega
   obtain ⟨x, hx, hxo⟩ := (hH.out wr hB.out).inner hlt
   obtain ⟨b, c', hb, hc', _, _, _, hcell, _⟩ := rowCell (hH.out wr hB.out).outer hx
   have hb : a = some ⟨b, 0, none⟩ ∧ c = c' := by injection hb with e1 e2 e3; exact ⟨e1, e3⟩
   obtain ⟨rfl, rfl⟩ := hb
   obtain ⟨xa, xc, rfl⟩ := own_form hxo
   have hml : rows[m].length ≤ 1000 := hl _ (List.getElem_mem hlt)
   have htk : Hid (rows.take m ++ [rows[m]] = rows.take (m + 1)) := by show _ = _; rw [List.take_succ_eq_append_getElem hlt]
   have hlen : Hid ((rows.take m).length = m) := by show _ = _; simp; omega
   have hxH : Hid (∀ W, Below wr.heap.size wr W → W.ownsRow 0 2 1 (.slice xa rows[m].length xc) rows[m].length (intsV rows[m])) := fun W hW => own_below hxo hW fun g hg => (World.ownsRow.lt hxo g hg).2
   generalize rows[m] = zs at *
   obtain ⟨va, vc, hve⟩ := own_form hR.out.outer
   rw [hlen.out] at hve
   subst hve
   have hO : Hid (∀ W, Below wr.heap.size wr W → W.ownsRow w.heap.size 25 1 (.slice va m vc) m us') := fun W hW => by
    have := hR.out.toRowsAt.outer
    rw [hlen.out] at this
    exact own_below this hW fun g hg => (World.ownsRow.lt this g hg).2
   clear hxo hx
   go_wp2_with (first
    | (refine wpList_append_row rfl (.tmp 13) (.tmp 17) 25 rfl wr.heap.size 2 i2 (.int .i64 0) 8 Tryz.underlying25 hi2 hz2 hs2 hb2 rfl _ 0 [] rfl (World.ownsRow_made wr #[] 0 (Nat.le_refl _) (by unfold maxLen; omega) rfl) _ 0 _ _ rfl (hxH.out _ (below_1 _ _)) (intsV_one _) (by unfold maxLen; omega) (by omega) (by simp) ?_; intro v1 w1 hown1 hgrow1 hat1; obtain ⟨va1, vc1, rfl⟩ := own_form hown1; have hb1 := below_app hgrow1)
    | (refine wpList_append_row rfl (.tmp 12) (.tmp 19) 49 rfl w.heap.size 25 i5 (.slice none 0 0) 24 Tryz.underlying49 hi5 hz5 hs5 hb5 rfl _ m us' rfl (hO.out _ (below_on hb1 (below_1 _ _))) _ 0 1 _ rfl (World.ownsRow_lit w1 #[.slice va1 zs.length vc1] 1 (Nat.zero_le _) (by unfold maxLen; omega) rfl) (by simp [Value.oneCell']) (by unfold maxLen; omega) (by omega) (by have := hB.out.size; have := hb1.size; simp; omega) ?_; intro v2 w2 hown2 hgrow2 hat2))
   go_roundw
   case rel =>
    refine ⟨m + 1, us' ++ [.slice va1 zs.length vc1], by omega, by go_num, ?_, ?_⟩
    ·have h1 : w1.ownsRow wr.heap.size 2 1 (.slice va1 zs.length vc1) zs.length (intsV zs) := by simpa using hown1
     have := RowsOwn.snoc (w := wr) (w1 := w1.alloc (.cells #[.slice va1 zs.length vc1] 25)) (rows := rows.take m) (zs := zs) hR.out hB.out.size (below_on hb1 (below_1 _ _)) (h1.alloc _) (by rw [hlen.out]; simpa using hown2) hgrow2 hat2
     rw [htk.out] at this
     exact this
    ·exact (below_on hB.out (below_on hb1 (below_1 _ _))).grown hgrow2 (by have := hb1.size; have := hB.out.size; simp; omega) (fun j hj => (World.ownsRow.lt (hO.out wr (Below.refl _ _)) j hj).1)
   case measure => simp [intOf]; omega
  ·have hme : m = rows.length := by omega
   have hR2 : Hid (RowsOwn w.heap.size wr.heap.size wr u3 us' rows) := by have := hR.out; rw [hme, List.take_length] at this; exact this
   clear hme
   go_wp2
   go_ret
   exact ⟨⟨_, us', rfl, hR2.out⟩, hB.out⟩
end Go.Proofs.YtknbchheoloaoaaGreat

/- spec.l11Copy: a state copied. -/
namespace Go.Proofs.YtknbchheoloaoaaGreat
set_option linter.unusedVariables false
open Go.ChangeShapes Go.WideShapes Go.ChangeAt Go.RowKit

def InI (lo hi : Nat) (r : RowD) : Prop := ∀ g, r.v.ownBlock = some g → lo ≤ g ∧ g < hi
def Dr (r q : RowD) : Prop := ∀ g, r.v.ownBlock = some g → q.v.ownBlock ≠ some g
def Far (l1 h1 l2 h2 : Nat) : Prop := h1 ≤ l2 ∨ h2 ≤ l1
theorem Far.dr {l1 h1 l2 h2 : Nat} (h : Far l1 h1 l2 h2) {r q : RowD} (hr : InI l1 h1 r) (hq : InI l2 h2 q) : Dr r q := fun g hg e => by
 have := hr g hg
 have := hq g e
 rcases h with h | h <;> omega
theorem OwnIn.inI {lo hi : Nat} {w : World} {e : TypeId} {v : Value} {xs : List Value} (h : OwnIn lo hi w e v xs) : InI lo hi ⟨e, v, xs⟩ := fun g hg => ⟨(World.ownsRow.lt h.1 g hg).1, h.2 g hg⟩
theorem RowsOwn.inI {lo hi : Nat} {w : World} {u : Value} {us : List Value} {rows : List (List Int)} (h : RowsOwn lo hi w u us rows) : ∀ r ∈ (⟨25, u, us⟩ :: rowsD us rows : List RowD), InI lo hi r := fun r hr g hg => ⟨(RowD.held.lt (h.held r hr) hg).1, h.lt r hr g hg⟩
theorem apart_st {w : World} {v0 v1 v2 v3 v4 : Value} {us1 us4 : List Value} {s : S11} {a0 b0 a1 b1 a2 b2 a3 b3 a4 b4 : Nat} (h0 : OwnIn a0 b0 w 2 v0 (intsV s.pcs)) (h1 : RowsOwn a1 b1 w v1 us1 s.reads) (h2 : OwnIn a2 b2 w 2 v2 (intsV s.memory)) (h3 : OwnIn a3 b3 w 2 v3 (intsV s.locks)) (h4 : RowsOwn a4 b4 w v4 us4 s.buffers)
  (f01 : Far a0 b0 a1 b1) (f02 : Far a0 b0 a2 b2) (f03 : Far a0 b0 a3 b3) (f04 : Far a0 b0 a4 b4) (f12 : Far a1 b1 a2 b2) (f13 : Far a1 b1 a3 b3) (f14 : Far a1 b1 a4 b4) (f23 : Far a2 b2 a3 b3) (f24 : Far a2 b2 a4 b4) (f34 : Far a3 b3 a4 b4) : ApartR (stRows v0 v1 v2 v3 v4 us1 us4 s) := by
 have i1 := h1.inI
 have i4 := h4.inI
 have o1 := i1 ⟨25, v1, us1⟩ (by simp)
 have o4 := i4 ⟨25, v4, us4⟩ (by simp)
 have r1 : ∀ r ∈ rowsD us1 s.reads, InI a1 b1 r := fun r hr => i1 r (List.mem_cons_of_mem _ hr)
 have r4 : ∀ r ∈ rowsD us4 s.buffers, InI a4 b4 r := fun r hr => i4 r (List.mem_cons_of_mem _ hr)
 have p1 := List.pairwise_cons.1 h1.apart
 have p4 := List.pairwise_cons.1 h4.apart
 have sy : ∀ {r q : RowD}, Dr r q → Dr q r := fun h g hg e => h g e hg
 unfold ApartR stRows
 refine List.pairwise_append.2 ⟨?_, List.pairwise_append.2 ⟨p1.2, p4.2, fun r hr q hq => f14.dr (r1 r hr) (r4 q hq)⟩, fun r hr q hq => ?_⟩
 ·refine List.pairwise_cons.2 ⟨fun q hq => ?_, List.pairwise_cons.2 ⟨fun q hq => ?_, List.pairwise_cons.2 ⟨fun q hq => ?_, List.pairwise_cons.2 ⟨fun q hq => ?_, by simp⟩⟩⟩⟩
  ·simp only [List.mem_cons, List.not_mem_nil, or_false] at hq
   rcases hq with rfl | rfl | rfl | rfl
   ·exact f01.dr h0.inI o1
   ·exact f02.dr h0.inI h2.inI
   ·exact f03.dr h0.inI h3.inI
   ·exact f04.dr h0.inI o4
  ·simp only [List.mem_cons, List.not_mem_nil, or_false] at hq
   rcases hq with rfl | rfl | rfl
   ·exact f12.dr o1 h2.inI
   ·exact f13.dr o1 h3.inI
   ·exact f14.dr o1 o4
  ·simp only [List.mem_cons, List.not_mem_nil, or_false] at hq
   rcases hq with rfl | rfl
   ·exact f23.dr h2.inI h3.inI
   ·exact f24.dr h2.inI o4
  ·simp only [List.mem_cons, List.not_mem_nil, or_false] at hq
   subst hq
   exact f34.dr h3.inI o4
 ·simp only [List.mem_cons, List.not_mem_nil, or_false] at hr
  rcases List.mem_append.1 hq with hq | hq
  ·rcases hr with rfl | rfl | rfl | rfl | rfl
   ·exact f01.dr h0.inI (r1 q hq)
   ·exact p1.1 q hq
   ·exact sy (f12.dr (r1 q hq) h2.inI)
   ·exact sy (f13.dr (r1 q hq) h3.inI)
   ·exact sy (f14.dr (r1 q hq) o4)
  ·rcases hr with rfl | rfl | rfl | rfl | rfl
   ·exact f04.dr h0.inI (r4 q hq)
   ·exact f14.dr o1 (r4 q hq)
   ·exact f24.dr h2.inI (r4 q hq)
   ·exact f34.dr h3.inI (r4 q hq)
   ·exact p4.1 q hq
theorem held_st {w : World} {B : Nat} {v0 v1 v2 v3 v4 : Value} {us1 us4 : List Value} {s : S11} {a0 b0 a1 b1 a2 b2 a3 b3 a4 b4 : Nat} (h0 : OwnIn a0 b0 w 2 v0 (intsV s.pcs)) (h1 : RowsOwn a1 b1 w v1 us1 s.reads) (h2 : OwnIn a2 b2 w 2 v2 (intsV s.memory)) (h3 : OwnIn a3 b3 w 2 v3 (intsV s.locks)) (h4 : RowsOwn a4 b4 w v4 us4 s.buffers) (g0 : B ≤ a0) (g1 : B ≤ a1) (g2 : B ≤ a2) (g3 : B ≤ a3) (g4 : B ≤ a4) : Held B w (stRows v0 v1 v2 v3 v4 us1 us4 s) := by
 refine Held.append ?_ (Held.append (fun r hr => own_mono (h1.held r (List.mem_cons_of_mem _ hr)) g1) (fun r hr => own_mono (h4.held r (List.mem_cons_of_mem _ hr)) g4))
 intro r hr
 simp only [List.mem_cons, List.not_mem_nil, or_false] at hr
 rcases hr with rfl | rfl | rfl | rfl | rfl
 ·exact own_mono h0.1 g0
 ·exact own_mono (h1.held _ (by simp)) g1
 ·exact own_mono h2.1 g2
 ·exact own_mono h3.1 g3
 ·exact own_mono (h4.held _ (by simp)) g4
def FreshSt (B : Nat) (w : World) (p : Value) (s : S11) : Prop := ∃ g u0 u1 u2 u3 u4 us1 us4, p = .pointer (some ⟨g, 0, none⟩) ∧ StAt B w g u0 u1 u2 u3 u4 us1 us4 s ∧ ApartR (stRows u0 u1 u2 u3 u4 us1 us4 s) ∧ ∀ r ∈ stRows u0 u1 u2 u3 u4 us1 us4 s, r.v.ownBlock ≠ some g
theorem FreshSt.below {B : Nat} {w w' : World} {p : Value} {s : S11} (h : FreshSt B w p s) (hb : Below w.heap.size w w') : FreshSt B w' p s := by
 obtain ⟨g, u0, u1, u2, u3, u4, us1, us4, e, h, ha, hg⟩ := h
 exact ⟨g, u0, u1, u2, u3, u4, us1, us4, e, h.below hb, ha, hg⟩
theorem FreshSt.read {B : Nat} {w : World} {p : Value} {s : S11} (h : FreshSt B w p s) : ReadSt w p s := by
 obtain ⟨g, u0, u1, u2, u3, u4, us1, us4, e, h, ha, hg⟩ := h
 exact ⟨g, u0, u1, u2, u3, u4, us1, us4, e, ⟨Nat.zero_le _, h.hi, h.row, h.l1, h.l4, h.held.mono (Nat.zero_le _)⟩⟩

def emptyV (v : Value) (lo hi : Nat) (w : World) : Prop := v = .slice (some ⟨lo, 0, none⟩) 0 0 ∧ OwnIn lo hi w 2 v []
def copyVal (g : Nat) (u0 u1 u2 u3 u4 : Value) (s : S11) (B : Nat) : Nat → Value → Nat → Nat → World → Prop
 | 0, v, lo, hi, w => emptyV v lo hi w
 | 1, v, _, _, _ => v = .pointer (some ⟨g, 0, none⟩)
 | 2, v, _, _, _ => v = .pointer (some ⟨g, 0, none⟩)
 | 3, v, _, _, _ => v = .pointer (some ⟨g, 0, none⟩)
 | 4, v, _, _, _ => v = u0
 | 5, v, lo, hi, w => OwnIn lo hi w 2 v (intsV s.pcs)
 | 6, v, _, _, _ => v = .pointer (some ⟨g, 0, none⟩)
 | 7, v, _, _, _ => v = .pointer (some ⟨g, 0, none⟩)
 | 8, v, _, _, _ => v = .pointer (some ⟨g, 1, none⟩)
 | 9, v, _, _, _ => v = u1
 | 10, v, lo, hi, w => ∃ us, RowsOwn lo hi w v us s.reads
 | 11, v, lo, hi, w => emptyV v lo hi w
 | 12, v, _, _, _ => v = .pointer (some ⟨g, 0, none⟩)
 | 13, v, _, _, _ => v = .pointer (some ⟨g, 0, none⟩)
 | 14, v, _, _, _ => v = .pointer (some ⟨g, 2, none⟩)
 | 15, v, _, _, _ => v = u2
 | 16, v, lo, hi, w => OwnIn lo hi w 2 v (intsV s.memory)
 | 17, v, lo, hi, w => emptyV v lo hi w
 | 18, v, _, _, _ => v = .pointer (some ⟨g, 0, none⟩)
 | 19, v, _, _, _ => v = .pointer (some ⟨g, 0, none⟩)
 | 20, v, _, _, _ => v = .pointer (some ⟨g, 3, none⟩)
 | 21, v, _, _, _ => v = u3
 | 22, v, lo, hi, w => OwnIn lo hi w 2 v (intsV s.locks)
 | 23, v, _, _, _ => v = .pointer (some ⟨g, 0, none⟩)
 | 24, v, _, _, _ => v = .pointer (some ⟨g, 0, none⟩)
 | 25, v, _, _, _ => v = .pointer (some ⟨g, 4, none⟩)
 | 26, v, _, _, _ => v = u4
 | 27, v, lo, hi, w => ∃ us, RowsOwn lo hi w v us s.buffers
 | 28, v, _, _, w => ∃ v0 v1 v2 v3 v4 us1 us4, v = .agg #[v0, v1, v2, v3, v4] ∧ us1.length = s.reads.length ∧ us4.length = s.buffers.length ∧ Held B w (stRows v0 v1 v2 v3 v4 us1 us4 s) ∧ ApartR (stRows v0 v1 v2 v3 v4 us1 us4 s)
 | _, v, _, _, w => FreshSt B w v s
theorem emptyV.below {v : Value} {lo hi : Nat} {w w' : World} (h : emptyV v lo hi w) (hb : Below w.heap.size w w') (hh : hi ≤ w.heap.size) : emptyV v lo hi w' := ⟨h.1, h.2.below hb hh⟩
theorem copyVal_below (g : Nat) (u0 u1 u2 u3 u4 : Value) (s : S11) (B : Nat) : ∀ i v lo hi (w w' : World), Below w.heap.size w w' → hi ≤ w.heap.size → copyVal g u0 u1 u2 u3 u4 s B i v lo hi w → copyVal g u0 u1 u2 u3 u4 s B i v lo hi w' := by
 intro i v lo hi w w' hb hh h
 match i, h with
 | 0, h => exact emptyV.below h hb hh
 | 1, h => exact h
 | 2, h => exact h
 | 3, h => exact h
 | 4, h => exact h
 | 5, h => exact OwnIn.below h hb hh
 | 6, h => exact h
 | 7, h => exact h
 | 8, h => exact h
 | 9, h => exact h
 | 10, ⟨us, h⟩ => exact ⟨us, h.below hb⟩
 | 11, h => exact emptyV.below h hb hh
 | 12, h => exact h
 | 13, h => exact h
 | 14, h => exact h
 | 15, h => exact h
 | 16, h => exact OwnIn.below h hb hh
 | 17, h => exact emptyV.below h hb hh
 | 18, h => exact h
 | 19, h => exact h
 | 20, h => exact h
 | 21, h => exact h
 | 22, h => exact OwnIn.below h hb hh
 | 23, h => exact h
 | 24, h => exact h
 | 25, h => exact h
 | 26, h => exact h
 | 27, ⟨us, h⟩ => exact ⟨us, h.below hb⟩
 | 28, ⟨v0, v1, v2, v3, v4, us1, us4, e, l1, l4, h1, h2⟩ => exact ⟨v0, v1, v2, v3, v4, us1, us4, e, l1, l4, h1.below hb, h2⟩
 | i + 29, h => exact FreshSt.below (show FreshSt B w v s from h) hb
def copySrc : Nat → Option Nat
 | 5 => some 0
 | 16 => some 11
 | 22 => some 17
 | _ => none
theorem copySrc_cases {i j : Nat} (h : copySrc i = some j) : (i = 5 ∧ j = 0) ∨ (i = 16 ∧ j = 11) ∨ (i = 22 ∧ j = 17) := by
 unfold copySrc at h
 split at h <;> simp_all
end Go.Proofs.YtknbchheoloaoaaGreat
