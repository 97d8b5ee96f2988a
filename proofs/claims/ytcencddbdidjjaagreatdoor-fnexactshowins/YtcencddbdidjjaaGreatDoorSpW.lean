/- spec: the words that stand for numbers. -/
import Derived.Test.YtcencddbdidjjaaGreatDoorOpN
import Derived.Great.BuildSlice
import Derived.Test.YtcencddbdidjjaaGreatDoorRwB
import Derived.Test.YtcencddbdidjjaaGreatDoorDec
import Derived.Test.YtcencddbdidjjaaGreatDoorQt
import Derived.Deep.RegionHeld3
import Derived.Laws.OwnMore
import Derived.OwnWalk
namespace Go.Proofs.YtcencddbdidjjaaGreatDoor
set_option linter.unusedVariables false
open Go.ChangeShapes Go.WideShapes Go.ChangeAt Go.RowKit

theorem word_cell (T : List (List UInt8)) (w : World) (t : TypeId) (j : Nat) (hj : j < T.length) : (w.alloc (.cells (rowS T).toArray t)).cell? ⟨w.heap.size, j, none⟩ = some (.string (mkS (wordAt T j))) := by
  rw [World.cell?_alloc_new]
  simp [rowS, wordAt, hj]
theorem word_get (T : List (List UInt8)) (j : Nat) (hj : j < T.length) : (rowS T)[j]'(by rw [rowS_length]; exact hj) = .string (mkS (wordAt T j)) := by
  simp [rowS, wordAt, hj]
def letT : List (List UInt8) := [[], [73], [74], [68], [82], [66], [67], [83]]
set_option maxRecDepth 1000000 in
set_option maxHeartbeats 4000000 in
theorem letter_calls (j : Nat) (w : World) (hj : j < 8) : Calls Tryz.prog 30 #[.int .i64 j] w fun e w' => e = .returned (.string (mkS (wordAt letT j))) ∧ Below w.heap.size w w' := by
  have hj' : (j : Int) < 8 := by omega
  have hj0 : (0 : Int) ≤ j := by omega
  have hc := word_cell letT w 9 j hj
  go_enter Tryz.func30, Tryz.ntmps30
  go_wp2
  go_ret
  exact ⟨congrArg Ending.returned (word_get letT j hj), (Below.refl _ _).alloc (Nat.le_refl _) _⟩
def cndT : List (List UInt8) := [[], [101, 113], [110, 101], [108, 116], [103, 101], [103, 116], [108, 101]]
set_option maxRecDepth 1000000 in
set_option maxHeartbeats 4000000 in
theorem cond_calls (j : Nat) (w : World) (hj : j < 7) : Calls Tryz.prog 34 #[.int .i64 j] w fun e w' => e = .returned (.string (mkS (wordAt cndT j))) ∧ Below w.heap.size w w' := by
  have hj' : (j : Int) < 7 := by omega
  have hj0 : (0 : Int) ≤ j := by omega
  have hc := word_cell cndT w 9 j hj
  go_enter Tryz.func34, Tryz.ntmps34
  go_wp2
  go_ret
  exact ⟨congrArg Ending.returned (word_get cndT j hj), (Below.refl _ _).alloc (Nat.le_refl _) _⟩
def howT : List (List UInt8) := [[], [115, 116, 97, 116, 105, 99], [118, 105, 114, 116, 117, 97, 108], [115, 112, 101, 99, 105, 97, 108], [105, 110, 116, 101, 114, 102, 97, 99, 101]]
set_option maxRecDepth 1000000 in
set_option maxHeartbeats 4000000 in
theorem how_calls (j : Nat) (w : World) (hj : j < 5) : Calls Tryz.prog 35 #[.int .i64 j] w fun e w' => e = .returned (.string (mkS (wordAt howT j))) ∧ Below w.heap.size w w' := by
  have hj' : (j : Int) < 5 := by omega
  have hj0 : (0 : Int) ≤ j := by omega
  have hc := word_cell howT w 9 j hj
  go_enter Tryz.func35, Tryz.ntmps35
  go_wp2
  go_ret
  exact ⟨congrArg Ending.returned (word_get howT j hj), (Below.refl _ _).alloc (Nat.le_refl _) _⟩
def opsT : List (List UInt8) := [[], [99, 111, 110, 115, 116], [116, 101, 120, 116], [110, 117, 108, 108], [108, 111, 97, 100], [115, 116, 111, 114, 101], [105, 110, 99], [112, 111, 112], [100, 117, 112], [115, 119, 97, 112], [117, 110, 100, 101, 114], [97, 100, 100], [115, 117, 98], [109, 117, 108], [100, 105, 118], [114, 101, 109], [110, 101, 103], [115, 104, 108], [115, 104, 114], [117, 115, 104, 114], [97, 110, 100], [111, 114], [120, 111, 114], [99, 109, 112], [99, 111, 110, 118], [103, 111, 116, 111], [105, 102], [105, 102, 105, 110, 116], [105, 102, 110, 117, 108, 108], [105, 102, 115, 97, 109, 101], [115, 119, 105, 116, 99, 104], [103, 101, 116], [112, 117, 116], [99, 97, 108, 108], [110, 101, 119], [110, 101, 119, 97, 114, 114, 97, 121], [108, 101, 110, 103, 116, 104], [97, 108, 111, 97, 100], [97, 115, 116, 111, 114, 101], [99, 97, 115, 116], [105, 115], [116, 104, 114, 111, 119], [101, 110, 116, 101, 114], [101, 120, 105, 116], [114, 101, 116, 117, 114, 110]]
set_option maxRecDepth 1000000 in
set_option maxHeartbeats 8000000 in
theorem opName_calls (j : Nat) (w : World) (hj1 : 1 ≤ j) (hj : j < 45) : Calls Tryz.prog 29 #[.int .i64 j] w fun e w' => e = .returned (.string (mkS (wordAt opsT j))) ∧ Below w.heap.size w w' := by
  have hj' : (j : Int) < 45 := by omega
  have hj0 : ¬ (j : Int) < 1 := by omega
  have hj00 : (0 : Int) ≤ (j : Int) := by omega
  go_enter Tryz.func29, Tryz.ntmps29
  go_wp2
  go_ret
  exact ⟨congrArg Ending.returned (word_get opsT j hj), (Below.refl _ _).alloc (Nat.le_refl _) _⟩
end Go.Proofs.YtcencddbdidjjaaGreatDoor

/- spec.l3Words: an append of some words. -/
namespace Go.Proofs.YtcencddbdidjjaaGreatDoor
set_option linter.unusedVariables false
open Go.ChangeShapes Go.WideShapes Go.ChangeAt Go.RowKit

/-- What was owned is owned still behind an append: the new elements stand behind it, or in a new block. -/
theorem append_keeps {P : Program} {w w' : World} {base : Nat} {t ty e : TypeId} {i : TypeInfo} {z : Value} {size bytes : Nat} (ht : P.underlying t = some (.slice e)) (hi : P.info? e = some i) (hz : i.zero = some z)
    (hsize : i.size = size) (hby : i.bytes = bytes) {v v' : Value} {n : Nat} {xs : List Value} (hown : w.ownsRow base e size v n xs) {a : Addr} {m c : Nat} {news : List Value} (hl : news.length = m * size)
    (hnews : ∀ j u, news[j]? = some u → w.cell? (a.add j) = some u) (h1 : ∀ u ∈ news, u.oneCell' = true) (h63 : n + m ≤ maxLen) (hbytes : (n + m) * bytes ≤ 140737488355328)
    (hr : (Builtin.append_ #[t, t] ty #[v, .slice (some a) m c]).run P w = .ok v' w') : w'.ownsRow base e size v n xs := by
  subst hsize hby
  have h64 : n + m ≤ 9223372036854775807 := by unfold maxLen at h63; omega
  obtain ⟨hlen, h | ⟨g, cap, cur, rfl, hbg, hg, hnc, hcm, hcs, htake⟩⟩ := hown
  · obtain ⟨rfl, rfl⟩ := h
    have : xs = [] := List.eq_nil_of_length_eq_zero (by simpa using hlen)
    subst this
    exact World.ownsRow_nil _ _ _ _
  · by_cases hroom : n + m ≤ cap
    · have hfit : n * i.size + news.length ≤ cur.size := by rw [hl, hcs, ← Nat.add_mul]; exact Nat.mul_le_mul_right _ hroom
      rw [run_append_room (P := P) w t ty e i ht hi g n cap cur hg a m c news hl hnews h1 hroom hfit] at hr
      injection hr with _ hw
      subst hw
      refine ⟨hlen, .inr ⟨g, cap, _, rfl, hbg, setRow_heap w g cur _ e _ hg, hnc, hcm, ?_, ?_⟩⟩
      · have : cur.toList.length = cur.size := Array.length_toList
        simp only [List.size_toArray, List.length_append, List.length_take, List.length_drop, this]
        omega
      · show ((cur.toList.take (n * i.size) ++ news ++ cur.toList.drop (n * i.size + news.length)).take (n * i.size)) = xs
        rw [htake, List.append_assoc, ← hlen]
        exact List.take_left
    · have holds : ∀ j u, xs[j]? = some u → w.cell? ((⟨g, 0, none⟩ : Addr).add j) = some u := World.ownsRow.cells (base := base) (e := e) (size := i.size) (v := .slice (some ⟨g, 0, none⟩) n cap) (n := n) ⟨hlen, .inr ⟨g, cap, cur, rfl, hbg, hg, hnc, hcm, hcs, htake⟩⟩ rfl
      rw [run_append_grow (P := P) w t ty e i z ht hi hz ⟨g, 0, none⟩ n cap xs hlen holds a m c news hl hnews (by omega) (by omega) (growslice_fits (by omega) hbytes)] at hr
      injection hr with _ hw
      subst hw
      refine ⟨hlen, .inr ⟨g, cap, cur, rfl, hbg, ?_, hnc, hcm, hcs, htake⟩⟩
      exact (Below.heap_alloc w.drew _ g (Array.getElem?_eq_some_iff.1 hg).1).trans hg
theorem wp_appN {o : Oper} {a : Act} {K : Act → World → Prop} {Q : Exit → Act → World → Prop} (W : World) (s x : Operand)
    (ho : o.op = .call { callee := .builtin .append, args := #[s, x], argTypes := #[34, 34] }) (B : Nat) (w : World) (v0 v : Value) (ws p : List (List UInt8)) (m g : Nat) (hm : m = p.length) (hs : a.eval s = v) (hx : a.eval x = .slice (some ⟨g, 0, none⟩) m m)
    (hc : ∀ j u, (rowS p)[j]? = some u → W.cell? ⟨g, j, none⟩ = some u) (hw : Wrk B w v0 ws v W) (hn : ws.length + p.length ≤ 1073741000)
    (h : ∀ v' w', Hid (Wrk B w v0 (ws ++ p) v' w') → Hid (Wrk B w v0 ws v w') → K (a.put o.dst v') w') : o.wp Tryz.prog a W K Q := by
  obtain ⟨i0, hi, hz0, hz1, hz2⟩ := str_info
  subst hm
  have q1 : (rowS p).length = p.length * 1 := by rw [rowS_length, Nat.mul_one]
  have q2 : ∀ j u, (rowS p)[j]? = some u → W.cell? ((⟨g, 0, none⟩ : Addr).add j) = some u := by
    intro j u hj
    rw [show (⟨g, 0, none⟩ : Addr).add j = ⟨g, j, none⟩ by simp [Addr.add]; omega]
    exact hc j u hj
  have q3 : ∀ u ∈ rowS p, u.oneCell' = true := by
    intro u hu
    simp only [rowS, List.mem_map] at hu
    obtain ⟨b, _, rfl⟩ := hu
    rfl
  obtain ⟨v', w', hr, h2, h3, -, h5⟩ := run_append_own_at (P := Tryz.prog) W B 34 o.type 9 i0 (.string ByteArray.empty) 1 16 Tryz.underlying34 hi hz0 hz1 hz2 rfl (by decide) v ws.length (rowS ws) hw.words ⟨g, 0, none⟩ p.length p.length (rowS p) q1 q2 q3 (by unfold maxLen; omega) (by omega) hw.le
  have h6 := append_keeps (base := B) (size := 1) (bytes := 16) Tryz.underlying34 hi hz0 hz1 hz2 hw.words q1 q2 q3 (by unfold maxLen; omega) (by omega) hr
  unfold Oper.wp execOp
  simp only [ho, resolve, invoke, builtin, Sem.run_bind, Sem.run_pure, Result.andThen_ok, List.map_toArray, List.map_cons, List.map_nil, hs, hx, hr]
  have hb1 : Below B W w' := (Below.refl B W).grown h3 hw.le (fun j hj => ((hw.words.lt j hj).1))
  have hsz := hw.below.size
  have hkp : ∀ q, q < w.heap.size → v0.ownBlock ≠ some q → w'.heap[q]? = w.heap[q]? := fun q hq hv => by
    obtain ⟨_, _, _, _, hk⟩ := h3
    rw [hk q (by omega) (by
      intro e
      rcases hw.own with e2 | ⟨g', e2, hg'⟩
      · exact hv (by rw [← e2]; exact e.symm)
      · rw [e2] at e; injection e with e; omega)]
    exact hw.kept q hq hv
  refine h v' w' ⟨?_, hw.below.trans hb1, Nat.le_trans hw.le hb1.size, hkp, ?_⟩ ⟨h6, hw.below.trans hb1, Nat.le_trans hw.le hb1.size, hkp, hw.own⟩
  · unfold WordsAt
    rw [List.length_append, rowS_append]; exact h2
  · rcases h5 with e | e
    · rw [e]; exact hw.own
    · exact .inr ⟨_, e, hsz⟩
theorem appN {ops : Array Oper} {rest : List Oper} {o : Oper} {a : Act} {Q : Exit → Act → World → Prop} (hgd : o.guard = none) (W : World) (s x : Operand)
    (ho : o.op = .call { callee := .builtin .append, args := #[s, x], argTypes := #[34, 34] }) (B : Nat) (w : World) (v0 v : Value) (ws p : List (List UInt8)) (m g : Nat) (hm : m = p.length) (hs : a.eval s = v) (hx : a.eval x = .slice (some ⟨g, 0, none⟩) m m)
    (hc : ∀ j u, (rowS p)[j]? = some u → W.cell? ⟨g, j, none⟩ = some u) (hw : Wrk B w v0 ws v W) (hn : ws.length + p.length ≤ 1073741000)
    (h : ∀ v' w', Hid (Wrk B w v0 (ws ++ p) v' w') → wpList Tryz.prog ops Q rest (a.put o.dst v') w') : wpList Tryz.prog ops Q (o :: rest) a W :=
  wpList_plain hgd fun _ hK => wp_appN W s x ho B w v0 v ws p m g hm hs hx hc hw hn fun v' w' h2 _ => hK _ _ (h v' w' h2)
theorem cellsN (W : World) (t : TypeId) (p : List (List UInt8)) (C : Array Value) (g : Nat) (hC : C = (rowS p).toArray) (hg : W.heap.size = g) : ∀ j u, (rowS p)[j]? = some u → (W.alloc (.cells C t)).cell? ⟨g, j, none⟩ = some u := fun j u hj => by
  subst hg hC
  rw [World.cell?_alloc_new]
  simpa using hj
theorem Wrk.ins {B : Nat} {w W : World} {v0 v : Value} {ws : List (List UInt8)} (h : Wrk B w v0 ws v W) {q : Nat} {I : Array Value} (hi : w.heap[q]? = some (.cells I 27 (0, 0))) (hne : v0.ownBlock ≠ some q) (j : Nat) : W.cell? ⟨q, j, none⟩ = I[j]? := by
  have e := h.kept q (Array.getElem?_eq_some_iff.1 hi).1 hne
  rw [hi] at e
  simp [World.cell?, e]
theorem firstWord (w W2 : World) (I : Array Value) (nm : List UInt8) (hb : Below (w.alloc (.cells I 27)).heap.size (w.alloc (.cells I 27)) W2) :
    Below w.heap.size w (W2.alloc (.cells #[.string (mkS nm)] 9)) ∧ (W2.alloc (.cells #[.string (mkS nm)] 9)).heap[w.heap.size]? = some (.cells I 27 (0, 0)) ∧ w.heap.size ≠ W2.heap.size ∧ WordsAt w.heap.size (W2.alloc (.cells #[.string (mkS nm)] 9)) (.slice (some ⟨W2.heap.size, 0, none⟩) 1 1) [nm] ∧ w.heap.size ≤ (W2.alloc (.cells #[.string (mkS nm)] 9)).heap.size := by
  have h1 : (w.alloc (.cells I 27)).heap.size = w.heap.size + 1 := by simp
  have h2 := hb.size
  have hB : Below w.heap.size w W2 := ((Below.refl _ _).alloc (Nat.le_refl _) _).trans (hb.mono (by omega))
  refine ⟨hB.alloc (by omega) _, ?_, by omega, ⟨rfl, .inr ⟨W2.heap.size, 1, _, rfl, by omega, heap_alloc_last _ _, Nat.le_refl _, by unfold maxLen; omega, rfl, rfl⟩⟩, by simp; omega⟩
  rw [heap_alloc_old _ _ (by omega), hb.block _ (by omega)]
  exact heap_alloc_last w _
end Go.Proofs.YtcencddbdidjjaaGreatDoor
