/- Numbers shown, of 64 bits. -/
import Derived.Test.YtcencddbdidjjaaGreatDoorShFi
import Derived.Test.YtcencddbdidjjaaGreatDoorRwB
import Derived.Lib.OthersKept
import Derived.WalkSmall
namespace Go.Proofs.YtcencddbdidjjaaGreatDoor
set_option linter.unusedVariables false
open Go.ChangeShapes Go.WideShapes Go.ChangeAt Go.RowKit

/-- A number of 64 bits. -/
structure B64 (n : Int) : Prop where
  lo : -9223372036854775808 ≤ n
  hi : n < 9223372036854775808
theorem int_calls (n : Int) (w : World) (h : B64 n) : Calls Tryz.prog 32 #[.int .i64 n] w fun e w' => e = .returned (.string (FN n)) ∧ Below w.heap.size w w' := by
  have h1 := h.lo
  have h2 := h.hi
  by_cases hn : n < 0
  · obtain ⟨k, hk⟩ : ∃ k : Nat, n = -(k : Int) := ⟨(-n).toNat, by omega⟩
    subst hk
    have e : FN (-(k : Int)) = mkS (45 :: Lib.decDigits k) := by
      unfold FN
      rw [Lib.itoa, if_pos hn]
      congr 2
      simp
    rw [e]
    exact l1Int_neg k w (by omega) (by omega)
  · obtain ⟨k, hk⟩ : ∃ k : Nat, n = (k : Int) := ⟨n.toNat, by omega⟩
    subst hk
    have e : FN (k : Int) = mkS (Lib.decDigits k) := by unfold FN; rw [itoa_nat]
    rw [e]
    exact l1Int_pos k w (by omega)
theorem format64_calls (n : Int) (w : World) (h : B64 n) (he : Env w) : Calls Tryz.prog 98 #[.int .i64 n, .int .i64 10] w fun e w' => e = .returned (.string (FN n)) ∧ Below w.heap.size w w' := by
  have h0 := h.lo
  have h1 := h.hi
  refine (Tryz.strconv_FormatInt_10 n (by omega) (by omega) w he.tab).mono ?_
  rintro e w' ⟨rfl, k, os, rfl⟩
  refine ⟨rfl, rfl, rfl, rfl, ?_, fun j hj => ?_⟩
  · show w.heap.size ≤ (w.heap ++ os).size
    simp
  · show (w.heap ++ os)[j]? = w.heap[j]?
    rw [Array.getElem?_append_left hj]
theorem number_calls (n : Int) (w : World) (h : B64 n) (he : Env w) : Calls Tryz.prog 71 #[.int .i64 n] w fun e w' => e = .returned (.string (FN n)) ∧ Below w.heap.size w w' := by
  go_enter Tryz.func71, Tryz.ntmps71
  go_wp2_with (go_at_call 98; fail)
  refine (format64_calls n w h he).mono ?_
  rintro e w' ⟨rfl, hb⟩
  go_wp2
  go_ret
  exact ⟨rfl, hb⟩
/-- A list of words laid anew. -/
def Listed (f n : Nat) (T : List (List UInt8)) : Prop := ∀ (w : World) (g : Nat), w.heap.size = g → Calls Tryz.prog f #[] w fun e w' => e = .returned (.slice (some ⟨g, 0, none⟩) n n) ∧ (∀ (j : Nat) x, T[j]? = some x → w'.cell? ⟨g, j, none⟩ = some (.string (mkS x))) ∧ Below w.heap.size w w'
theorem listed {f n : Nat} {T : List (List UInt8)} (h : ∀ w, Calls Tryz.prog f #[] w fun e w' => e = .returned (.slice (some ⟨w.heap.size, 0, none⟩) n n) ∧ w' = w.alloc (.cells (rowS T).toArray 9)) : Listed f n T := fun w g hg => by
  subst hg
  refine (h w).mono ?_
  rintro e w' ⟨rfl, rfl⟩
  refine ⟨rfl, fun j x hj => ?_, (Below.refl _ _).alloc (Nat.le_refl _) _⟩
  rw [World.cell?_alloc_new]
  simp [rowS, hj]
theorem kind_listed : Listed 69 5 kindT := listed kindWords_calls
theorem conv_listed : Listed 72 8 convT := listed convWords_calls
theorem cond_listed : Listed 73 7 condT := listed condWords_calls
theorem call_listed : Listed 74 5 callT := listed callWords_calls
def wordAt (T : List (List UInt8)) (n : Int) : List UInt8 := T.getD n.toNat []
end Go.Proofs.YtcencddbdidjjaaGreatDoor

/- impl.insWords. -/
namespace Go.Proofs.YtcencddbdidjjaaGreatDoor
set_option linter.unusedVariables false
open Go.ChangeShapes Go.WideShapes Go.ChangeAt Go.RowKit

/-- Between two letters: the words so far; the instruction in block q; the letters' place in block k. -/
structure IwR (w : World) (I : Array Value) (ops : List UInt8) (k : Nat) (ws : List (List UInt8)) (pos : Nat) (v : Value) (W : World) : Prop where
  words : WordsAt w.heap.size W v ws
  below : Below w.heap.size w W
  ins : W.heap[w.heap.size]? = some (.cells I 27 (0, 0))
  it : W.heap[k]? = some (.stringIter (mkS ops) pos)
  ne1 : v.ownBlock ≠ some w.heap.size
  ne2 : v.ownBlock ≠ some k
theorem IwR.next {w W : World} {I : Array Value} {ops : List UInt8} {k pos : Nat} {ws : List (List UInt8)} {v : Value} (h : IwR w I ops k ws pos v W) (hk : w.heap.size < k) (p : Nat) : IwR w I ops k ws p v (W.iterAt k (mkS ops) p) := by
  refine ⟨?_, Lib.below_iterAt h.below (by omega) _ _, by rw [Lib.iterAt_other _ _ _ _ _ (by omega)]; exact h.ins, Lib.iterAt_heap _ _ _ _ _ h.it, h.ne1, h.ne2⟩
  have hne := h.ne2
  obtain ⟨h1, h2 | ⟨g, cap, cur, e1, e2, e3, e4⟩⟩ := h.words
  · exact ⟨h1, .inl h2⟩
  · refine ⟨h1, .inr ⟨g, cap, cur, e1, e2, ?_, e4⟩⟩
    rw [Lib.iterAt_other _ _ _ _ _ (by intro e; subst e; rw [e1] at hne; exact hne rfl)]; exact e3
theorem IwR.step {w W W' : World} {I : Array Value} {ops : List UInt8} {k pos : Nat} {ws ws' : List (List UInt8)} {v v' : Value} (h : IwR w I ops k ws pos v W) (hw : Wrk w.heap.size W v ws' v' W') : IwR w I ops k ws' pos v' W' := by
  have hq := (Array.getElem?_eq_some_iff.1 h.ins).1
  have hk := (Array.getElem?_eq_some_iff.1 h.it).1
  refine ⟨hw.words, h.below.trans hw.below, by rw [hw.kept _ hq h.ne1]; exact h.ins, by rw [hw.kept _ hk h.ne2]; exact h.it, ?_, ?_⟩
  · rcases hw.own with e | ⟨g, e, hg⟩
    · rw [e]; exact h.ne1
    · rw [e]; intro e2; injection e2 with e2; omega
  · rcases hw.own with e | ⟨g, e, hg⟩
    · rw [e]; exact h.ne2
    · rw [e]; intro e2; injection e2 with e2; omega
theorem IwR.first (w W2 : World) (I : Array Value) (ops wd : List UInt8) (X : Array Value) (hb : Below (w.alloc (.cells I 27)).heap.size (w.alloc (.cells I 27)) W2) :
    IwR w I ops (W2.heap.size + 1 + 1) [wd] 0 (.slice (some ⟨W2.heap.size + 1, 0, none⟩) 1 1) (((W2.alloc (.cells X 56)).alloc (.cells #[.string (mkS wd)] 9)).iter (mkS ops) 0) := by
  have h1 : (w.alloc (.cells I 27)).heap.size = w.heap.size + 1 := by simp
  have h2 := hb.size
  have hs1 : (W2.alloc (.cells X 56)).heap.size = W2.heap.size + 1 := by simp
  have hs2 : ((W2.alloc (.cells X 56)).alloc (.cells #[.string (mkS wd)] 9)).heap.size = W2.heap.size + 1 + 1 := by simp
  have hB : Below w.heap.size w W2 := ((Below.refl _ _).alloc (Nat.le_refl _) _).trans (hb.mono (by omega))
  have hB3 : Below w.heap.size w ((W2.alloc (.cells X 56)).alloc (.cells #[.string (mkS wd)] 9)) := (hB.alloc (by omega) _).alloc (by rw [hs1]; omega) _
  refine ⟨⟨rfl, .inr ⟨W2.heap.size + 1, 1, #[.string (mkS wd)], rfl, by omega, ?_, Nat.le_refl _, by unfold maxLen; omega, rfl, rfl⟩⟩, hB3.alloc hB3.size _, ?_, ?_, ?_, ?_⟩
  · show ((W2.alloc _).alloc _ |>.alloc _).heap[W2.heap.size + 1]? = _
    rw [heap_alloc_old _ _ (by rw [hs2]; omega), ← hs1]; exact heap_alloc_last _ _
  · show ((W2.alloc _).alloc _ |>.alloc _).heap[w.heap.size]? = _
    rw [heap_alloc_old _ _ (by rw [hs2]; omega), heap_alloc_old _ _ (by rw [hs1]; omega), heap_alloc_old _ _ (by omega), hb.block _ (by omega)]
    exact heap_alloc_last w _
  · show ((W2.alloc _).alloc _ |>.alloc _).heap[W2.heap.size + 1 + 1]? = _
    rw [← hs2]; exact heap_alloc_last _ _
  · simp only [Value.ownBlock]; intro e; injection e with e; omega
  · simp only [Value.ownBlock]; intro e; injection e with e; omega

set_option maxRecDepth 1000000 in
set_option maxHeartbeats 4000000 in
theorem insWords_calls (o k a b : Int) (T C N Y : ByteArray) (ta : Option Addr) (tn tc : Nat) (w : World) (wd ops : List UInt8) (ro rb : Int) (f : UInt8 → List (List UInt8)) (hr : theRow o b rowsT = ⟨wd, ro, rb, ops⟩)
    (hasc : ∀ c ∈ ops, c.toNat < 128) (hlen : ∀ p, p < ops.length → (wd :: (ops.take p).flatMap f).length ≤ 1000) (hol : ops.length ≤ 1000)
    (hop : ∀ c ∈ ops, ∀ (W : World) (v : Value) (ws : List (List UInt8)), WordsAt w.heap.size W v ws → Below w.heap.size w W → ws.length ≤ 1000 →
      Calls Tryz.prog 43 #[v, insV o k a b T C N Y (.slice ta tn tc), .int .i32 c.toNat] W fun e w' => ∃ v', e = .returned v' ∧ Wrk w.heap.size W v (ws ++ f c) v' w') :
    Calls Tryz.prog 16 #[insV o k a b T C N Y (.slice ta tn tc)] w fun e w' => ∃ v, e = .returned v ∧ WordsAt w.heap.size w' v (wd :: ops.flatMap f) ∧ Below w.heap.size w w' := by
  have hascH : Hid (∀ c ∈ ops, c.toNat < 128) := hasc
  have hlenH : Hid (∀ p, p < ops.length → (wd :: (ops.take p).flatMap f).length ≤ 1000) := hlen
  have hopH : Hid (∀ c ∈ ops, ∀ (W : World) (v : Value) (ws : List (List UInt8)), WordsAt w.heap.size W v ws → Below w.heap.size w W → ws.length ≤ 1000 →
      Calls Tryz.prog 43 #[v, insV o k a b T C N Y (.slice ta tn tc), .int .i32 c.toNat] W fun e w' => ∃ v', e = .returned v' ∧ Wrk w.heap.size W v (ws ++ f c) v' w') := hop
  have hsz : (mkS ops).size = ops.length := by rw [← toList_size, mkS_list]
  clear hasc hlen hop
  go_enter Tryz.func16, Tryz.ntmps16
  go_wp2_with (go_at_call 42; fail)
  refine (rowOf_calls o k a b T C N Y ta tn tc _).mono ?_
  rintro e W2 ⟨rfl, hb12⟩
  rw [hr, show (rowCells ⟨wd, ro, rb, ops⟩).toArray = #[.string (mkS wd), .int .i64 ro, .int .i64 rb, .string (mkS ops)] from rfl]
  have hst : Hid (IwR w #[.int .i64 o, .int .i64 k, .int .i64 a, .int .i64 b, .string T, .string C, .string N, .string Y, .slice ta tn tc] ops (W2.heap.size + 1 + 1) [wd] 0 (.slice (some ⟨W2.heap.size + 1, 0, none⟩) 1 1) (((W2.alloc (.cells #[.string (mkS wd), .int .i64 ro, .int .i64 rb, .string (mkS ops)] 56)).alloc (.cells #[.string (mkS wd)] 9)).iter (mkS ops) 0)) := IwR.first w W2 _ ops wd _ hb12
  have hkH : Hid (w.heap.size < W2.heap.size + 1 + 1) := by
    have := hb12.size
    simp at this
    show _ < _
    omega
  clear hb12 hr
  go_wp2_with fail
  obtain ⟨kk, hkk⟩ : ∃ kk, W2.heap.size + 1 + 1 = kk := ⟨_, rfl⟩
  rw [hkk] at hst hkH ⊢
  go_loopw [4] (fun wv wr => ∃ pos : Nat, pos ≤ ops.length ∧ Hid (IwR w #[.int .i64 o, .int .i64 k, .int .i64 a, .int .i64 b, .string T, .string C, .string N, .string Y, .slice ta tn tc] ops kk (wd :: (ops.take pos).flatMap f) pos wv wr)) (fun _ wr => ops.length - wr.iterPos kk)
  case atStart => exact ⟨0, by omega, by simpa using hst⟩
  case round =>
    obtain ⟨pos, hpos, hR⟩ := hrel
    by_cases hp : pos < ops.length
    · have hps : pos < (mkS ops).size := by rw [hsz]; exact hp
      obtain ⟨c, hc⟩ : ∃ c, ops[pos]'hp = c := ⟨_, rfl⟩
      have hcm : c ∈ ops := by rw [← hc]; exact List.getElem_mem hp
      have hgc : ((mkS ops)[pos]'hps) = c := by rw [get_toList _ _ hps]; exact hc
      have hnx0 : ∀ ty, (Instr.next (.pointer (some ⟨kk, 0, none⟩)) true ty).run Tryz.prog wr = _ := fun ty => Lib.run_next_ascii_at wr kk (mkS ops) pos ty hR.out.it hps (by rw [hgc]; exact hascH.out c hcm)
      have hR3 : Hid (IwR w #[.int .i64 o, .int .i64 k, .int .i64 a, .int .i64 b, .string T, .string C, .string N, .string Y, .slice ta tn tc] ops kk (wd :: (ops.take pos).flatMap f) (pos + 1) u4 (wr.iterAt kk (mkS ops) (pos + 1))) := hR.out.next hkH.out _
      have hm0 : Hid (wr.iterPos kk = pos) := iterPos_of hR.out.it
      obtain ⟨W3, hW3⟩ : ∃ W3, W3 = wr.iterAt kk (mkS ops) (pos + 1) := ⟨_, rfl⟩
      rw [← hW3] at hR3
      have hnx : ∀ ty, (Instr.next (.pointer (some ⟨kk, 0, none⟩)) true ty).run Tryz.prog wr = .ok (.tuple #[.bool true, .int .i64 pos, .int .i32 c.toNat]) W3 := fun ty => by rw [hnx0 ty, hgc, hW3]
      have hins3 := hR3.out.ins
      have i0 : W3.cell? ⟨w.heap.size, 0, none⟩ = some (.int .i64 o) := by simp [World.cell?, hins3]
      have i1 : W3.cell? ⟨w.heap.size, 1, none⟩ = some (.int .i64 k) := by simp [World.cell?, hins3]
      have i2 : W3.cell? ⟨w.heap.size, 2, none⟩ = some (.int .i64 a) := by simp [World.cell?, hins3]
      have i3 : W3.cell? ⟨w.heap.size, 3, none⟩ = some (.int .i64 b) := by simp [World.cell?, hins3]
      have i4 : W3.cell? ⟨w.heap.size, 4, none⟩ = some (.string T) := by simp [World.cell?, hins3]
      have i5 : W3.cell? ⟨w.heap.size, 5, none⟩ = some (.string C) := by simp [World.cell?, hins3]
      have i6 : W3.cell? ⟨w.heap.size, 6, none⟩ = some (.string N) := by simp [World.cell?, hins3]
      have i7 : W3.cell? ⟨w.heap.size, 7, none⟩ = some (.string Y) := by simp [World.cell?, hins3]
      have i8 : W3.cell? ⟨w.heap.size, 8, none⟩ = some (.slice ta tn tc) := by simp [World.cell?, hins3]
      have hcall : Hid (Calls Tryz.prog 43 #[u4, insV o k a b T C N Y (.slice ta tn tc), .int .i32 c.toNat] W3 fun e w' => ∃ v', e = .returned v' ∧ Wrk w.heap.size W3 u4 ((wd :: (ops.take pos).flatMap f) ++ f c) v' w') := hopH.out c hcm W3 u4 _ hR3.out.words hR3.out.below (hlenH.out pos hp)
      have hnext : Hid ((wd :: (ops.take pos).flatMap f) ++ f c = wd :: (ops.take (pos + 1)).flatMap f) := by
        show _ = _
        rw [List.take_succ_eq_append_getElem hp, List.flatMap_append, hc]; simp
      clear hnx0 hgc hW3 hins3 hc hps hR
      go_wp2_with (go_at_call 43; refine hcall.out.mono ?_; rintro e w' ⟨v', rfl, hwk⟩; have hwkH : Hid (Wrk w.heap.size W3 u4 ((wd :: (ops.take pos).flatMap f) ++ f c) v' w') := hwk; clear hwk)
      go_roundw
      case rel =>
        refine ⟨pos + 1, by omega, ?_⟩
        show IwR _ _ _ _ _ _ _ _
        rw [← hnext.out]
        exact hR3.out.step hwkH.out
      case measure =>
        have h1 : w'.iterPos kk = pos + 1 := iterPos_of (hR3.out.step hwkH.out).it
        rw [h1, hm0.out]; omega
    · have hps : ¬ pos < (mkS ops).size := by rw [hsz]; exact hp
      have hnx : ∀ ty, (Instr.next (.pointer (some ⟨kk, 0, none⟩)) true ty).run Tryz.prog wr = _ := fun ty => Lib.run_next_end_at wr kk (mkS ops) pos ty hR.out.it hps
      have hall : Hid ((ops.take pos).flatMap f = ops.flatMap f) := by
        show _ = _
        rw [List.take_of_length_le (by omega)]
      clear hps
      go_wp2
      go_ret
      exact ⟨_, rfl, by rw [← hall.out]; exact hR.out.words, hR.out.below⟩
end Go.Proofs.YtcencddbdidjjaaGreatDoor
